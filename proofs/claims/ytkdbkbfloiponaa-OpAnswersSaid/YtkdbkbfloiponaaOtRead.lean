/- Answer: a result out of its bytes. No conditions beyond those in each statement. -/
import Derived.Test.YtkdbkbfloiponaaOtBytes
namespace Go.Proofs.Ytkdbkbfloiponaa
open Go.RowKit
set_option linter.unusedVariables false
set_option linter.unusedSimpArgs false
set_option maxRecDepth 100000

def rdT (st : RS) : Ot × RS := (⟨⟨(textF 60 st).1.toArray⟩, (numF 6 281474976710655 (textF 60 st).2).1⟩, (numF 6 281474976710655 (textF 60 st).2).2)
def rdTs : Nat → RS → List Ot × RS
  | 0, st => ([], st)
  | n + 1, st => ((rdTs n st).1 ++ [(rdT (rdTs n st).2).1], (rdT (rdTs n st).2).2)
theorem rdTs_len (n : Nat) (st : RS) : (rdTs n st).1.length = n := by
  induction n with
  | zero => rfl
  | succ n ih => show ((rdTs n st).1 ++ _).length = _; rw [List.length_append, ih]; rfl
theorem rdT_ok (st : RS) : (rdT st).1.Ok ∧ (rdT st).1.path.size ≤ 60 ∧ 0 ≤ (rdT st).1.ver ∧ (rdT st).1.ver ≤ 281474976710655 := by
  have q3 := textF_len 60 st
  rw [← size_arr] at q3
  have q2 := numF_most (textF 60 st).2 281474976710655 (by decide)
  have e2 : (rdT st).1.path.size ≤ 60 := q3
  have e4 : (rdT st).1.ver = (numF 6 281474976710655 (textF 60 st).2).1 := rfl
  refine ⟨⟨?_, ?_⟩, e2, ?_, ?_⟩
  · unfold maxLen; omega
  · unfold InR; rw [e4]; omega
  · rw [e4]; omega
  · rw [e4]; omega
theorem rdTs_ok (n : Nat) (st : RS) : ∀ x ∈ (rdTs n st).1, x.Ok ∧ x.path.size ≤ 60 ∧ 0 ≤ x.ver ∧ x.ver ≤ 281474976710655 := by
  induction n with
  | zero => intro x hx; cases hx
  | succ n ih =>
    intro x hx
    rcases List.mem_append.1 (show x ∈ (rdTs n st).1 ++ [(rdT (rdTs n st).2).1] from hx) with hx | hx
    · exact ih x hx
    · rw [List.mem_singleton.1 hx]; exact rdT_ok _
structure Rq where
  e : Int
  at_ : Int
  when_ : Int
  N : Nat
  st0 : RS
def rdQ (st : RS) : Rq :=
  let a := numF 6 1024 st
  let b := numF 6 4 a.2
  let c := numF 6 281474976710655 b.2
  let m := numF 6 4 c.2
  ⟨a.1, b.1, c.1, m.1.toNat, m.2⟩
def rdR (st : RS) : Rt × RS := (⟨(rdQ st).e, (rdQ st).at_, (rdTs (rdQ st).N (rdQ st).st0).1, (rdQ st).when_⟩, (rdTs (rdQ st).N (rdQ st).st0).2)
def readR (l : List UInt8) : Rt × Int := if doneF (rdR (some l)).2 = 0 then ((rdR (some l)).1, 0) else (Rt.zero, 2)
theorem run_fR2 (W : World) (b : Nat) : (Instr.fieldAt 36 (.pointer (some ⟨b, 0, none⟩)) 2).run Try.prog W = .ok (.pointer (some ⟨b, 2, none⟩)) W := by go_simp
theorem run_loadOts (W : World) (p : Addr) (a : Option Addr) (n c : Nat) (h : W.cell? p = some (.slice a n c)) : (Instr.loadAt 34 (.pointer (some p))).run Try.prog W = .ok (.slice a n c) W := by go_simp
theorem run_storeOts (W : World) (p : Addr) (a : Option Addr) (n c : Nat) (u : Value) (h : W.cell? p = some u) (hf : W.frozen? p = false) : (Instr.storeAt 34 (.pointer (some p)) (.slice a n c)).run Try.prog W = .ok () (W.setCell p (.slice a n c)) := by go_simp
theorem run_bOt (W : World) (p : ByteArray) (z : Int) : (Instr.build 40 #[(0, .string p), (1, .int .i64 z)]).run Try.prog W = .ok (otV ⟨p, z⟩) W := by kernel_rfl
theorem run_rowT (W : World) (o : Ot) : (Instr.buildSlice 34 1 #[(0, otV o)]).run Try.prog W = .ok (.slice (some ⟨W.heap.size, 0, none⟩) 1 1) (W.alloc (.cells (otA o) 40)) := by unfold otV otA; go_simp
theorem call_tx (W : World) (v u : Value) : (callFunc 25 #[v, u]).run Try.prog W = .ok (.enter 25 #[v, u]) W := by kernel_rfl
theorem call_nm (W : World) (v u : Value) : (callFunc 23 #[v, u]).run Try.prog W = .ok (.enter 23 #[v, u]) W := by kernel_rfl
section
variable {P : Program} {Q : Exit → Act → World → Prop} {l : List Oper}
theorem gstep_build2 {i : Nat} {o : Oper} {a : Act} {w : World} {K : Act → World → Prop} (ho : l[i]? = some o) (hw : WantedIs l a o true) (t : TypeId) (i1 i2 : Nat) (s1 s2 : Operand) (hop : o.op = .build t #[(i1, s1), (i2, s2)]) (v1 v2 : Value) (he1 : a.eval s1 = v1) (he2 : a.eval s2 = v2) (v' : Value)
    (hr : (Instr.build t #[(i1, v1), (i2, v2)]).run P w = .ok v' w) (h : K (a.put o.dst v') w) : Step P l Q i K a w :=
  gstep_value ho hw v' w (by simp only [execOp, hop, List.map_toArray, List.map_cons, List.map_nil, he1, he2, Sem.run_bind, Sem.run_pure, hr, Result.andThen_ok]) h
end
def FRt (cb rb : Nat) (v0 : Value) (o : Ot) : Nat → Value → Prop
  | 0, v => v = .pointer (some ⟨cb, 2, none⟩)
  | 1, v => v = v0
  | 2, v => v = .pointer (some ⟨rb, 0, none⟩)
  | 3, v => v = .string o.path
  | 4, v => v = .pointer (some ⟨rb, 0, none⟩)
  | 5, v => v = .int .i64 o.ver
  | 6, v => v = otV o
  | 9, v => v = .pointer (some ⟨cb, 2, none⟩)
  | _, _ => True
/-- What has run of the region that appends what was read. -/
structure JRt (base rs rb cb : Nat) (w0 : World) (v0 : Value) (c : Rt) (st : RS) (b : Nat → Bool) (x : Nat → Value) (w : World) : Prop where
  bel : Below w0.heap.size w0 w
  res : RtB w rs (.slice none 0 0) Rt.zero
  box : RtB w cb v0 c
  rd : Rs w rb (if b 5 then (rdT st).2 else if b 3 then (textF 60 st).2 else st)
  low : base ≤ w.heap.size
  row : b 8 = false → TRow w base v0 c.outs
  u5 : b 5 = true → b 3 = true
  u6 : b 6 = true → b 5 = true
  u7 : b 7 = true → b 5 = true
  u8 : b 8 = true → b 7 = true
  r7 : b 7 = true → b 8 = false → ∃ g, x 7 = .slice (some ⟨g, 0, none⟩) 1 1 ∧ OtB w g (rdT st).1
  r8 : b 8 = true → TRow w base (x 8) (c.outs ++ [(rdT st).1])
section
variable {base rs rb cb : Nat} {w0 w w' : World} {v0 : Value} {c : Rt} {st : RS} {b : Nat → Bool} {x : Nat → Value}
theorem JRt.n7 (h : JRt base rs rb cb w0 v0 c st b x w) (h7 : b 7 = false) : b 8 = false := by cases e : b 8; rfl; have := h.u8 e; rw [h7] at this; cases this
theorem JRt.n5 (h : JRt base rs rb cb w0 v0 c st b x w) (h5 : b 5 = false) : b 7 = false ∧ b 8 = false := by
  have h7 : b 7 = false := by cases e : b 7; rfl; have := h.u7 e; rw [h5] at this; cases this
  exact ⟨h7, h.n7 h7⟩
theorem JRt.n3 (h : JRt base rs rb cb w0 v0 c st b x w) (h3 : b 3 = false) : b 5 = false := by cases e : b 5; rfl; have := h.u5 e; rw [h3] at this; cases this
theorem JRt.pure {i : Nat} {v : Value} (h : JRt base rs rb cb w0 v0 c st b x w) (hi : ¬ 3 = i ∧ ¬ 5 = i ∧ ¬ 7 = i ∧ ¬ 8 = i) (h6 : i = 6 → b 5 = true) : JRt base rs rb cb w0 v0 c st (setB b i) (setX x i v) w := by
  obtain ⟨e3, e5, e7, e8⟩ := hi
  refine ⟨h.bel, h.res, h.box, by rw [setB_ne e5, setB_ne e3]; exact h.rd, h.low, by rw [setB_ne e8]; exact h.row, ?_, ?_, ?_, ?_, ?_, ?_⟩
  · rw [setB_ne e5, setB_ne e3]; exact h.u5
  · rw [setB_ne e5]; intro hb; by_cases e6 : i = 6
    · exact h6 e6
    · rw [setB_ne (fun e => e6 e.symm)] at hb; exact h.u6 hb
  · rw [setB_ne e7, setB_ne e5]; exact h.u7
  · rw [setB_ne e8, setB_ne e7]; exact h.u8
  · rw [setB_ne e7, setB_ne e8, setX_ne e7]; exact h.r7
  · rw [setB_ne e8, setX_ne e8]; exact h.r8
theorem JRt.grow (h : JRt base rs rb cb w0 v0 c st b x w) (h8 : b 8 = false) (h7 : b 7 = false) (hd : rs < base ∧ rb < base ∧ cb < base ∧ rs ≠ rb ∧ cb ≠ rb ∧ w0.heap.size ≤ rb) (hg : w.grownBy w' (some rb)) : Below w0.heap.size w0 w' ∧ RtB w' rs (.slice none 0 0) Rt.zero ∧ RtB w' cb v0 c ∧ base ≤ w'.heap.size ∧ TRow w' base v0 c.outs := by
  obtain ⟨d1, d2, d3, d4, d5, d6⟩ := hd
  exact ⟨h.bel.grown hg h.bel.size (fun q hq => by have := Option.some.inj hq; omega), h.res.kept hg (fun e => d4 (Option.some.inj e)), h.box.kept hg (fun e => d5 (Option.some.inj e)), Nat.le_trans h.low hg.size, (h.row h8).kept hg d2⟩
theorem JRt.s3 {v : Value} (h : JRt base rs rb cb w0 v0 c st b x w) (h3 : b 3 = false) (hd : rs < base ∧ rb < base ∧ cb < base ∧ rs ≠ rb ∧ cb ≠ rb ∧ w0.heap.size ≤ rb) (hr : Rs w' rb (textF 60 st).2) (hg : w.grownBy w' (some rb)) : JRt base rs rb cb w0 v0 c st (setB b 3) (setX x 3 v) w' := by
  have h5 := h.n3 h3
  obtain ⟨h7, h8⟩ := h.n5 h5
  obtain ⟨g1, g2, g3, g4, g5⟩ := h.grow h8 h7 hd hg
  refine ⟨g1, g2, g3, by rw [setB_ne (by decide), h5, setB_same]; exact hr, g4, fun _ => g5, fun _ => setB_same _ _, ?_, ?_, ?_, ?_, ?_⟩
  · rw [setB_ne (by decide), setB_ne (by decide)]; exact h.u6
  · rw [setB_ne (by decide), h7]; intro e; cases e
  · rw [setB_ne (by decide), h8]; intro e; cases e
  · rw [setB_ne (by decide), h7]; intro e; cases e
  · rw [setB_ne (by decide), h8]; intro e; cases e
theorem JRt.s5 {v : Value} (h : JRt base rs rb cb w0 v0 c st b x w) (h3 : b 3 = true) (h5 : b 5 = false) (hd : rs < base ∧ rb < base ∧ cb < base ∧ rs ≠ rb ∧ cb ≠ rb ∧ w0.heap.size ≤ rb) (hr : Rs w' rb (rdT st).2) (hg : w.grownBy w' (some rb)) : JRt base rs rb cb w0 v0 c st (setB b 5) (setX x 5 v) w' := by
  obtain ⟨h7, h8⟩ := h.n5 h5
  obtain ⟨g1, g2, g3, g4, g5⟩ := h.grow h8 h7 hd hg
  refine ⟨g1, g2, g3, by rw [setB_same]; exact hr, g4, fun _ => g5, fun _ => by rw [setB_ne (by decide)]; exact h3, ?_, ?_, ?_, ?_, ?_⟩
  · intro _; exact setB_same _ _
  · rw [setB_ne (by decide), h7]; intro e; cases e
  · rw [setB_ne (by decide), h8]; intro e; cases e
  · rw [setB_ne (by decide), h7]; intro e; cases e
  · rw [setB_ne (by decide), h8]; intro e; cases e
theorem JRt.s7 (h : JRt base rs rb cb w0 v0 c st b x w) (h5 : b 5 = true) (h7 : b 7 = false) : JRt base rs rb cb w0 v0 c st (setB b 7) (setX x 7 (.slice (some ⟨w.heap.size, 0, none⟩) 1 1)) (w.alloc (.cells (otA (rdT st).1) 40)) := by
  have h8 := h.n7 h7
  have bb := (Below.refl _ w).alloc (Nat.le_refl _) (.cells (otA (rdT st).1) 40)
  refine ⟨h.bel.alloc h.bel.size _, h.res.below bb, h.box.below bb, by rw [setB_ne (by decide), h5]; have := h.rd; rw [h5] at this; exact Rs.below this bb, Nat.le_trans h.low bb.size, fun _ => (h.row h8).below bb, ?_, ?_, ?_, ?_, ?_, ?_⟩
  · rw [setB_ne (by decide), setB_ne (by decide)]; exact h.u5
  · rw [setB_ne (by decide), setB_ne (by decide)]; exact h.u6
  · intro _; rw [setB_ne (by decide)]; exact h5
  · intro _; exact setB_same _ _
  · intro _ _; exact ⟨w.heap.size, setX_same _ _ _, OtB.new w _⟩
  · rw [setB_ne (by decide), h8]; intro e; cases e
theorem JRt.s8 {v : Value} (h : JRt base rs rb cb w0 v0 c st b x w) (h7 : b 7 = true) (h8 : b 8 = false) (hd : rs < base ∧ rb < base ∧ cb < base ∧ w0.heap.size ≤ base) (hr : w'.ownsRow base 40 2 v (c.outs.length + 1) (cellsK otOne c.outs ++ cellsK otOne [(rdT st).1])) (hg : w.grownBy w' v0.ownBlock) : JRt base rs rb cb w0 v0 c st (setB b 8) (setX x 8 v) w' := by
  have hrow := h.row h8
  have h5 := h.u7 h7
  obtain ⟨d1, d2, d3, d4⟩ := hd
  have ho : ∀ g, v0.ownBlock = some g → base ≤ g := fun g hg => (hrow.own hg).1
  refine ⟨h.bel.grown hg h.bel.size (fun q hq => by have := ho q hq; omega), h.res.kept hg (fun e => by have := ho _ e.symm; omega), h.box.kept hg (fun e => by have := ho _ e.symm; omega), ?_, Nat.le_trans h.low hg.size, ?_, ?_, ?_, ?_, ?_, ?_, ?_⟩
  · rw [setB_ne (by decide), h5]; have hq := h.rd; rw [h5] at hq; exact Rs.kept hq hg (fun e => by have := ho _ e.symm; omega)
  · rw [setB_same]; intro e; cases e
  · rw [setB_ne (by decide), setB_ne (by decide)]; exact h.u5
  · rw [setB_ne (by decide), setB_ne (by decide)]; exact h.u6
  · rw [setB_ne (by decide), setB_ne (by decide)]; exact h.u7
  · intro _; rw [setB_ne (by decide)]; exact h7
  · rw [setB_same]; intro _ e; cases e
  · intro _; rw [setX_same]; unfold TRow; rw [cellsK_append, List.length_append]; exact hr
end
theorem ans_results (W : World) (tmps : Array Value) (b : Nat) (v : Value) (n : Rt) (e : Int) (h2 : tmps.getD 2 undef = .pointer (some ⟨b, 0, none⟩)) (h3 : tmps.getD 3 undef = .int .i64 e) (hN : RtB W b v n) :
    (results Try.f16 tmps).run Try.prog W = .ok (.tuple #[rtV v n, .int .i64 e]) W := by
  obtain ⟨⟨c0, c1, c2, c3⟩, _⟩ := RtB.cells hN
  simp at h2 h3
  simp [results, Try.results16, go_sem, h2, h3, c0, c1, c2, c3, rtV]
set_option maxHeartbeats 8000000 in
theorem answer_any (s : ByteArray) (w : World) (hs : s.size ≤ 140737488355328) :
    Calls Try.prog 16 #[.string s] w fun e w' => ∃ u, e = .returned (.tuple #[rtV u (readR s.data.toList).1, .int .i64 (readR s.data.toList).2]) ∧ TRow w' w.heap.size u (readR s.data.toList).1.outs ∧ Below w.heap.size w w' := by
  obtain ⟨l, hl⟩ : ∃ l, l = s.data.toList := ⟨_, rfl⟩
  have hls : l.length = s.size := by rw [hl, ← Lib.size_eq]
  have b1 := (Below.refl _ w).alloc (Nat.le_refl _) (.cells (rtA (.slice none 0 0) Rt.zero) 36)
  have N1 := RtB.new w (.slice none 0 0) Rt.zero
  obtain ⟨Y, hY⟩ : ∃ Y, Y = readR l := ⟨_, rfl⟩
  obtain ⟨A, hA⟩ : ∃ A, A = numF 6 1024 (some l) := ⟨_, rfl⟩
  obtain ⟨B, hB⟩ : ∃ B, B = numF 6 4 A.2 := ⟨_, rfl⟩
  obtain ⟨C, hC⟩ : ∃ C, C = numF 6 281474976710655 B.2 := ⟨_, rfl⟩
  obtain ⟨M, hM⟩ : ∃ M, M = numF 6 4 C.2 := ⟨_, rfl⟩
  have eQ : rdQ (some l) = ⟨A.1, B.1, C.1, M.1.toNat, M.2⟩ := by rw [hM, hC, hB, hA]; rfl
  have hRK : Y = if doneF (rdTs M.1.toNat M.2).2 = 0 then (⟨A.1, B.1, (rdTs M.1.toNat M.2).1, C.1⟩, 0) else (Rt.zero, 2) := by
    rw [hY]; unfold readR rdR; rw [eQ]
  have qA := numF_most (some l) 1024 (by decide)
  have qB := numF_most A.2 4 (by decide)
  have qC := numF_most B.2 281474976710655 (by decide)
  have qM := numF_most C.2 4 (by decide)
  rw [← hA] at qA
  rw [← hB] at qB
  rw [← hC] at qC
  rw [← hM] at qM
  have HA := Lib.hid hA
  have HBq := Lib.hid hB
  have HC := Lib.hid hC
  have HM := Lib.hid hM
  have HRK := Lib.hid hRK
  obtain ⟨N, hN⟩ := Int.eq_ofNat_of_zero_le qM.1
  have hN4 : N ≤ 4 := by omega
  have HNT : Hid (M.1.toNat = N) := Lib.hid (by omega)
  have HNM : Hid (M.1 = (N : Int)) := Lib.hid hN
  rw [← hl, ← hY]
  clear hA hB hC hM hRK eQ hY hN
  have HRD := Lib.hid (read_any s (w.alloc (.cells (rtA (.slice none 0 0) Rt.zero) 36)))
  have HN1 := Lib.hid N1
  clear N1
  go_enter Try.func16, Try.ntmps16
  go_wp2_with fail
  refine HRD.out.mono ?_
  rintro e w2 ⟨rfl, R2, b2, hsz2⟩
  obtain ⟨w1, hw1⟩ : ∃ w1, w1 = w.alloc (.cells (rtA (.slice none 0 0) Rt.zero) 36) := ⟨_, rfl⟩
  rw [← hw1] at b1 b2 hsz2 R2 HN1 ⊢
  have hw1s : w1.heap.size = w.heap.size + 1 := by rw [hw1]; simp
  have R2' : Rs w2 w1.heap.size (some l) := ⟨by rw [hl, ← mk_data]; exact R2, by rw [hls]; omega⟩
  obtain ⟨rb, hrb⟩ : ∃ rb, rb = w1.heap.size := ⟨_, rfl⟩
  rw [← hrb] at R2' ⊢
  have hrw : w.heap.size < rb := by omega
  have b12 := b1.trans (b2.mono b1.size)
  have N2 := HN1.out.below b2
  have hrl := R2'.lt
  have HC1 := Lib.hid (num_rs rb 1024 _ w2 R2')
  rw [show max (1024 : Int) 0 = 1024 by decide, ← HA.out] at HC1
  have HC2 := Lib.hid (fun (W : World) (hW : Rs W rb A.2) => num_rs rb 4 _ W hW)
  have HC3 := Lib.hid (fun (W : World) (hW : Rs W rb B.2) => num_rs rb 281474976710655 _ W hW)
  have HC5 := Lib.hid (fun (W : World) (hW : Rs W rb C.2) => num_rs rb 4 _ W hW)
  rw [show max (281474976710655 : Int) 0 = 281474976710655 by decide] at HC3
  rw [show max (4 : Int) 0 = 4 by decide] at HC2 HC5
  rw [← HBq.out] at HC2
  rw [← HC.out] at HC3
  rw [← HM.out] at HC5
  obtain ⟨vA, sA⟩ := A
  obtain ⟨vB, sB⟩ := B
  obtain ⟨vC, sC⟩ := C
  obtain ⟨vM, sM⟩ := M
  simp only at HC1 HC2 HC3 HC5 HRK HNT HNM qA qB qC qM
  rw [HNT.out] at HRK
  have HN2 := Lib.hid N2
  have HB12 := Lib.hid b12
  clear hw1 hw1s hrb HRD R2 R2' b1 b2 hsz2 HN1 N2 b12 HA HBq HC HM
  go_wp2_with fail
  refine HC1.out.mono ?_
  rintro e w3 ⟨rfl, R3, g3⟩
  go_wp2_with fail
  refine (HC2.out _ R3).mono ?_
  rintro e w4 ⟨rfl, R4, g4⟩
  go_wp2_with fail
  refine (HC3.out _ R4).mono ?_
  rintro e w6 ⟨rfl, R6, g6⟩
  have gg := only_trans (only_trans g3 g4) g6
  have bC := HB12.out.grown gg HB12.out.size (fun q hq => by have := Option.some.inj hq; omega)
  have N6 := HN2.out.kept gg (fun e => by have := Option.some.inj e; omega)
  have hw6 := bC.size
  have bCb := (Below.refl _ w6).alloc (Nat.le_refl _) (.cells (rtA (.slice none 0 0) ⟨vA, vB, [], vC⟩) 36)
  have K7 := RtB.new w6 (.slice none 0 0) ⟨vA, vB, [], vC⟩
  have N7 := N6.below bCb
  have R7 := R6.below bCb
  have hrl6 := R6.lt
  have b7 := bC.trans (bCb.mono bC.size)
  clear R3 R4 R6 g3 g4 g6 gg HC1 HC2 HC3 N6 bC HB12 HN2
  go_upto_region 3 with fail
  obtain ⟨w7, hw7⟩ : ∃ w7, w7 = w6.alloc (.cells (rtA (.slice none 0 0) ⟨vA, vB, [], vC⟩) 36) := ⟨_, rfl⟩
  have hw7' := hw7
  unfold rtA at hw7'
  simp only at hw7'
  rw [← hw7] at K7 N7 R7 b7
  rw [← hw7']
  obtain ⟨cb, hcb⟩ : ∃ cb, cb = w6.heap.size := ⟨_, rfl⟩
  rw [← hcb] at K7 ⊢
  have hcb7 := K7.lt
  have hd : w.heap.size < cb + 1 ∧ rb < cb + 1 ∧ cb < cb + 1 ∧ w.heap.size ≠ rb ∧ cb ≠ rb ∧ w.heap.size ≤ rb := by omega
  have hcw : w.heap.size ≠ cb ∧ w.heap.size ≤ cb ∧ rb < cb := by omega
  have HKN := Lib.hid (show RtB w7 cb (.slice none 0 0) ⟨vA, vB, (rdTs 0 sM).1, vC⟩ from K7)
  have HC6 := Lib.hid (HC5.out _ R7)
  have HN7 := Lib.hid N7
  have HB7 := Lib.hid b7
  clear hw7 hw7' hcb K7 N7 R7 b7 bCb HC5
  rw [HNM.out] at HC6
  go_wp2_with fail
  refine HC6.out.mono ?_
  rintro e w8 ⟨rfl, R8, g8⟩
  have K8 := HKN.out.kept g8 (fun e => hd.2.2.2.2.1 (Option.some.inj e))
  have N8 := HN7.out.kept g8 (fun e => hd.2.2.2.1 (Option.some.inj e))
  have b8 := HB7.out.grown g8 HB7.out.size (fun q hq => by have := Option.some.inj hq; omega)
  have l8 : cb + 1 ≤ w8.heap.size := Nat.le_trans hcb7 g8.size
  clear HC6 HKN HN7 HB7 g8
  go_wp2_with fail
  go_loopw [17] (fun iv wr => ∃ (j : Nat) (a : Option Addr) (c : Nat), j ≤ N ∧ iv = .int .i64 j ∧ RtB wr cb (.slice a j c) ⟨vA, vB, (rdTs j sM).1, vC⟩ ∧ TRow wr (cb + 1) (.slice a j c) (rdTs j sM).1 ∧ Rs wr rb (rdTs j sM).2 ∧ RtB wr w.heap.size (.slice none 0 0) Rt.zero ∧ Below w.heap.size w wr ∧ cb + 1 ≤ wr.heap.size) (fun iv _ => N - (intOf iv).toNat)
  case atStart => exact ⟨0, none, 0, Nat.zero_le _, rfl, K8, TRow.nil _ _, R8, N8, b8, l8⟩
  case round =>
    obtain ⟨j, a, cap, hj, rfl, hK, hO, hR, hN, hb, hlo⟩ := hrel
    clear K8 R8 N8 b8 l8
    by_cases hlt : j < N
    · have t2 : IntKind.i64.wrap ((j : Int) + 1) = (j : Int) + 1 := IntWalk.i64_in _ (by omega)
      have HON := Lib.hid (rdTs_len j sM)
      have hlt2 : decide ((j : Int) < (N : Int)) = true := by simp; omega
      have HSN : Hid ((rdTs (j + 1) sM).1 = (rdTs j sM).1 ++ [(rdT (rdTs j sM).2).1] ∧ (rdTs (j + 1) sM).2 = (rdT (rdTs j sM).2).2) := Lib.hid ⟨rfl, rfl⟩
      obtain ⟨L, hL⟩ : ∃ L, L = (rdTs j sM).1 := ⟨_, rfl⟩
      obtain ⟨st, hst⟩ : ∃ st, st = (rdTs j sM).2 := ⟨_, rfl⟩
      rw [← hL] at hK hO HON HSN
      rw [← hst] at hR HSN
      have HK0 := Lib.hid hK
      have HO0 := Lib.hid hO
      have HR0 := Lib.hid hR
      have HN0 := Lib.hid hN
      have HB0 := Lib.hid hb
      have HT1 := Lib.hid (fun (W : World) (hW : Rs W rb st) => text_rs rb 60 _ W hW)
      have HT2 := Lib.hid (fun (W : World) (hW : Rs W rb (textF 60 st).2) => num_rs rb 281474976710655 _ W hW)
      rw [show max (281474976710655 : Int) 0 = 281474976710655 by decide] at HT2
      clear hL hst hK hO hR hN hb
      go_upto_region 5 with fail
      refine wp_region_inv_last 10 (IFJ (FRt cb rb (.slice a j cap) (rdT st).1) (JRt (cb + 1) w.heap.size rb cb w (.slice a j cap) ⟨vA, vB, L, vC⟩ st)) (by kernel_rfl) (by kernel_rfl) (by kernel_rfl) (by kernel_rfl) (by kernel_rfl) ?_ ?_ ?_
      · intro z
        exact ⟨fun k hk => (by cases hk), ⟨HB0.out.drew, HN0.out, HK0.out, HR0.out.below ((Below.refl _ wr).drew), hlo, fun _ => HO0.out.below ((Below.refl _ wr).drew), fun hk => (by cases hk), fun hk => (by cases hk), fun hk => (by cases hk), fun hk => (by cases hk), fun hk => (by cases hk), fun hk => (by cases hk)⟩⟩
      · intro i o hi ho b z w1 hI hbi hW
        match i, ho with
        | 0, ho =>
          obtain rfl := Option.some.inj ho
          exact gstep_field rfl (wanted0 rfl) _ _ _ rfl _ (eval_of 5 _ (by kernel_rfl) rfl) _ (run_fR2 w1 _) ⟨_, rfl, IFJ.step hI rfl (hI.2.pure (by decide) (fun e => absurd e (by decide)))⟩
        | 1, ho =>
          obtain rfl := Option.some.inj ho
          exact gstep_load rfl (wanted0 rfl) _ _ rfl _ (eval_at 19 0 _ (by kernel_rfl) (show 19 < 35 by decide) (hI.1 0 (hW 0 (by kernel_rfl)))) _ (run_loadOts w1 _ _ _ _ hI.2.box.cells.1.2.2.1) ⟨_, rfl, IFJ.step hI rfl (hI.2.pure (by decide) (fun e => absurd e (by decide)))⟩
        | 2, ho =>
          obtain rfl := Option.some.inj ho
          exact gstep_move rfl (wanted0 rfl) _ rfl _ (eval_of 4 _ (by kernel_rfl) rfl) ⟨_, rfl, IFJ.step hI rfl (hI.2.pure (by decide) (fun e => absurd e (by decide)))⟩
        | 3, ho =>
          obtain rfl := Option.some.inj ho
          refine gstep_call2 rfl (wanted0 rfl) _ _ _ _ rfl _ _ (eval_at 21 2 _ (by kernel_rfl) (show 21 < 35 by decide) (hI.1 2 (hW 2 (by kernel_rfl)))) rfl (call_tx w1 _ _) ?_
          have h5 := hI.2.n3 hbi
          refine (HT1.out w1 (by have := hI.2.rd; rw [h5, hbi] at this; exact this)).mono ?_
          rintro e w2 ⟨rfl, hr, hg⟩
          exact ⟨_, rfl, _, rfl, IFJ.step hI rfl (hI.2.s3 hbi hd hr hg)⟩
        | 4, ho =>
          obtain rfl := Option.some.inj ho
          exact gstep_move rfl (wanted0 rfl) _ rfl _ (eval_of 4 _ (by kernel_rfl) rfl) ⟨_, rfl, IFJ.step hI rfl (hI.2.pure (by decide) (fun e => absurd e (by decide)))⟩
        | 5, ho =>
          obtain rfl := Option.some.inj ho
          refine gstep_call2 rfl (wanted0 rfl) _ _ _ _ rfl _ _ (eval_at 23 4 _ (by kernel_rfl) (show 23 < 35 by decide) (hI.1 4 (hW 4 (by kernel_rfl)))) rfl (call_nm w1 _ _) ?_
          have h3 : b 3 = true := hW 3 (by kernel_rfl)
          refine (HT2.out w1 (by have := hI.2.rd; rw [hbi, h3] at this; exact this)).mono ?_
          rintro e w2 ⟨rfl, hr, hg⟩
          exact ⟨_, rfl, _, rfl, IFJ.step hI rfl (hI.2.s5 h3 hbi hd hr hg)⟩
        | 6, ho =>
          obtain rfl := Option.some.inj ho
          exact gstep_build2 rfl (wanted0 rfl) _ _ _ _ _ rfl _ _ (eval_at 22 3 _ (by kernel_rfl) (show 22 < 35 by decide) (hI.1 3 (hW 3 (by kernel_rfl)))) (eval_at 24 5 _ (by kernel_rfl) (show 24 < 35 by decide) (hI.1 5 (hW 5 (by kernel_rfl)))) _ (run_bOt w1 _ _) ⟨_, rfl, IFJ.step hI rfl (hI.2.pure (by decide) (fun _ => hW 5 (by kernel_rfl)))⟩
        | 7, ho =>
          obtain rfl := Option.some.inj ho
          have h5 : b 5 = true := by
            have h6 : b 6 = true := hW 6 (by kernel_rfl)
            exact hI.2.u6 h6
          exact gstep_row1 rfl (wanted0 rfl) _ _ rfl _ (eval_at 25 6 _ (by kernel_rfl) (show 25 < 35 by decide) (hI.1 6 (hW 6 (by kernel_rfl)))) _ _ (run_rowT w1 _) ⟨_, rfl, IFJ.step hI trivial (hI.2.s7 h5 hbi)⟩
        | 8, ho =>
          obtain rfl := Option.some.inj ho
          obtain ⟨i1, hi1, hz1, hz2, hz3⟩ := info_parts info_ot
          have hb7 : b 7 = true := hW 7 (by kernel_rfl)
          obtain ⟨g1, hx4, hg1⟩ := hI.2.r7 hb7 hbi
          have hrow := hI.2.row hbi
          refine gstep_append rfl (wanted0 rfl) _ _ _ rfl (cb + 1) 40 i1 _ 2 24 und_ots hi1 hz1 hz2 hz3 rfl (by decide) _ L.length (cellsK otOne L) (eval_at 20 1 _ (by kernel_rfl) (show 20 < 35 by decide) (hI.1 1 (hW 1 (by kernel_rfl)))) hrow ⟨g1, 0, none⟩ 1 1 (cellsK otOne [(rdT st).1]) (eval_at 26 7 _ (by kernel_rfl) (show 26 < 35 by decide) hx4) rfl (fun q u hq => by
            obtain ⟨c0, c1⟩ := hg1.cells
            match q, hq with
            | 0, hq => cases hq; exact c0
            | 1, hq => cases hq; exact c1) (cellsK_one otOne_one _) (by have := HON.out; unfold maxLen; omega) (by have := HON.out; omega) hI.2.low ?_
          intro v' w' ho hg
          exact ⟨_, rfl, IFJ.step hI trivial (hI.2.s8 hb7 hbi ⟨hd.1, hd.2.1, hd.2.2.1, by omega⟩ ho hg)⟩
        | 9, ho =>
          obtain rfl := Option.some.inj ho
          exact gstep_field rfl (wanted0 rfl) _ _ _ rfl _ (eval_of 5 _ (by kernel_rfl) rfl) _ (run_fR2 w1 _) ⟨_, rfl, IFJ.step hI rfl (hI.2.pure (by decide) (fun e => absurd e (by decide)))⟩
        | n + 10, ho => omega
      · intro o ho b z w9 hI hA
        obtain rfl := Option.some.inj ho
        have hF6 : z 9 = .pointer (some ⟨cb, 2, none⟩) := hI.1 9 (hA 9 (by decide))
        have hrow := hI.2.r8 (hA 8 (by decide))
        obtain ⟨a9, c9, hx5, _⟩ := hrow.form
        rw [show (Rt.outs ⟨vA, vB, L, vC⟩ ++ [(rdT st).1]).length = j + 1 by rw [List.length_append]; show L.length + 1 = _; rw [HON.out]] at hx5
        rw [hx5] at hrow
        have hcell := hI.2.box.cells.1.2.2.1
        have hfrz := hI.2.box.cells.2.2.2.1
        have hrd := hI.2.rd
        rw [hA 5 (by decide)] at hrd
        have HK9 := Lib.hid (hI.2.box.put2 (v := .slice a9 (j + 1) c9) (L ++ [(rdT st).1]))
        have HO9 : Hid (TRow (w9.setCell ⟨cb, 2, none⟩ (.slice a9 (j + 1) c9)) (cb + 1) (.slice a9 (j + 1) c9) (L ++ [(rdT st).1])) := Lib.hid (hrow.set hd.2.2.1)
        have HR9 : Hid (Rs (w9.setCell ⟨cb, 2, none⟩ (.slice a9 (j + 1) c9)) rb (rdT st).2) := Lib.hid (Rs.set hrd hd.2.2.2.2.1.symm)
        have HN9 := Lib.hid (hI.2.res.set (i := 2) (u := .slice a9 (j + 1) c9) hcw.1)
        have HB9 := Lib.hid (hI.2.bel.setCell (p := ⟨cb, 2, none⟩) hcw.2.1 (.slice a9 (j + 1) c9))
        have HL9 : Hid (cb + 1 ≤ (w9.setCell ⟨cb, 2, none⟩ (.slice a9 (j + 1) c9)).heap.size) := Lib.hid (by have := hI.2.low; simpa [World.setCell] using this)
        refine gstep_store rfl (wanted0 rfl) _ _ _ rfl _ _ (eval_at 28 9 _ (by kernel_rfl) (show 28 < 35 by decide) hF6) (eval_at 27 8 _ (by kernel_rfl) (show 27 < 35 by decide) hx5) _ (run_storeOts w9 _ _ _ _ _ hcell hfrz) ?_
        simp only [putAll, Act.put, List.setIfInBounds_toArray, List.set_cons_succ, List.set_cons_zero]
        clear hI hA hrow hx5 hcell hfrz hF6 hrd
        obtain ⟨w10, hw10⟩ : ∃ w10, w10 = w9.setCell ⟨cb, 2, none⟩ (.slice a9 (j + 1) c9) := ⟨_, rfl⟩
        rw [← hw10] at HK9 HO9 HR9 HN9 HB9 HL9 ⊢
        clear hw10
        go_wp2_with fail
        go_roundw
        case rel => exact ⟨j + 1, a9, c9, by omega, by go_num, by rw [HSN.out.1]; exact HK9.out, by rw [HSN.out.1]; exact HO9.out, by rw [HSN.out.2]; exact HR9.out, HN9.out, HB9.out, HL9.out⟩
        case measure => simp [intOf]; omega
    · obtain rfl : j = N := by omega
      have hlt2 : decide ((j : Int) < (j : Int)) = false := by simp
      have HDN := Lib.hid (done_rs rb (rdTs j sM).2 wr hR)
      have hd2 : doneF (rdTs j sM).2 = 0 ∨ doneF (rdTs j sM).2 = 2 := by unfold doneF; split <;> simp
      obtain ⟨L, hL⟩ : ∃ L, L = (rdTs j sM).1 := ⟨_, rfl⟩
      rw [← hL] at hK hO HRK
      generalize (rdTs j sM).2 = sT at HDN hd2 HRK
      obtain ⟨⟨c0, c1, c2, c3⟩, _⟩ := hK.cells
      obtain ⟨⟨x0, x1, x2, x3⟩, y0, y1, y2, y3⟩ := hN.cells
      simp only [Rt.zero] at x0 x1 x3
      have HO0 := Lib.hid hO
      have hwc : w.heap.size < cb + 1 := hd.1
      rcases hd2 with hdz | hdz
      · rw [hdz] at HDN HRK
        have HY2 : Hid (Y = (⟨vA, vB, L, vC⟩, 0)) := Lib.hid (by rw [HRK.out, if_pos rfl])
        have HZZ := Lib.hid (hN.set4 (v := .slice a j cap) ⟨vA, vB, L, vC⟩)
        have HBZ := Lib.hid (below4 hb (Nat.le_refl _) (.int .i64 vA) (.int .i64 vB) (.slice a j cap) (.int .i64 vC))
        clear hK hO hR hN hb hL hdz
        go_wp2_with fail
        refine HDN.out.mono ?_
        rintro e w9 ⟨rfl, rfl⟩
        go_wp2_with fail
        refine bodyPost_ret (ans_results _ _ w.heap.size (.slice a j cap) ⟨vA, vB, L, vC⟩ 0 rfl rfl HZZ.out) rfl ⟨.slice a j cap, by rw [HY2.out], by rw [HY2.out]; exact ((((HO0.out.set hwc).set hwc).set hwc).set hwc).less (Nat.le_succ_of_le hcw.2.1), HBZ.out⟩
      · rw [hdz] at HDN HRK
        have HY2 : Hid (Y = (Rt.zero, 2)) := Lib.hid (by rw [HRK.out, if_neg (by omega)])
        have HZZ := Lib.hid (hN.set4 (v := .slice none 0 0) Rt.zero)
        have HBZ := Lib.hid (below4 hb (Nat.le_refl _) (.int .i64 0) (.int .i64 0) (.slice none 0 0) (.int .i64 0))
        clear hK hO hR hN hb hL hdz
        go_wp2_with fail
        refine HDN.out.mono ?_
        rintro e w9 ⟨rfl, rfl⟩
        go_wp2_with fail
        refine bodyPost_ret (ans_results _ _ w.heap.size (.slice none 0 0) Rt.zero 2 rfl rfl HZZ.out) rfl ⟨.slice none 0 0, by rw [HY2.out], by rw [HY2.out]; exact TRow.nil _ _, HBZ.out⟩
end Go.Proofs.Ytkdbkbfloiponaa
