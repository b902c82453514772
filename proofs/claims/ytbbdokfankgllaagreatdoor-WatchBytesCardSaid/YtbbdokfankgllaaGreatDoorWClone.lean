/- Clone of a book. No conditions beyond those in each statement. -/
import Derived.Test.YtbbdokfankgllaaGreatDoorWHead
import Derived.Test.YtbbdokfankgllaaGreatDoorMcl
import Derived.Shelf.SlMaps.Clone
namespace Go.Proofs.YtbbdokfankgllaaGreatDoor
open Go.RowKit Go.Maps Go.Shelf
set_option linter.unusedVariables false
set_option linter.unusedSimpArgs false
set_option maxRecDepth 100000

/-- A map that may be nil. -/
def MapM (w : World) (base : Nat) (vm : Value) (k c : Nat) (N : Int → Option Int) : Prop := (vm = .map none ∧ N = (fun _ => none) ∧ c = 0) ∨ ∃ mb, vm = .map (some mb) ∧ MapN w mb k c N ∧ base ≤ mb
theorem MapM.below {w w' : World} {base k c : Nat} {vm : Value} {N : Int → Option Int} (h : MapM w base vm k c N) (hb : Below w.heap.size w w') : MapM w' base vm k c N := by
  refine h.imp id ?_
  rintro ⟨mb, h1, h2, h3⟩
  exact ⟨mb, h1, h2.below hb, h3⟩
theorem WRow.lessB {w : World} {base b : Nat} {v : Value} {L : List Wa} (h : WRow w base v L) (hb : b ≤ base) : WRow w b v L := ownsRow_less h hb
theorem ERow.lessB {w : World} {base b : Nat} {v : Value} {L : List Ev} (h : ERow w base v L) (hb : b ≤ base) : ERow w b v L := ownsRow_less h hb
theorem MapM.lessM {w : World} {base b k c : Nat} {vm : Value} {N : Int → Option Int} (h : MapM w base vm k c N) (hb : b ≤ base) : MapM w b vm k c N := by
  refine h.imp id ?_
  rintro ⟨mb, h1, h2, h3⟩
  exact ⟨mb, h1, h2, Nat.le_trans hb h3⟩
theorem mclone_any (base k c : Nat) (vm : Value) (N : Int → Option Int) (w : World) (h : MapM w base vm k c N) :
    Calls Tryz.prog 37 #[vm] w fun e w' => ∃ v, e = .returned v ∧ MapM w' w.heap.size v k c N ∧ Below w.heap.size w w' := by
  rcases h with ⟨rfl, rfl, rfl⟩ | ⟨mb, rfl, ⟨hr, D, ho, hc, hD⟩, _⟩
  · have C := AnyW.maps_Clone_nil Tryz.mclA w
    change Calls Tryz.prog 37 _ _ _ at C
    refine C.mono ?_
    rintro e w' ⟨rfl, hw⟩
    rw [hw]
    exact ⟨_, rfl, .inl ⟨rfl, rfl, rfl⟩, Below.refl _ _⟩
  · have C := AnyW.maps_Clone_owns Tryz.mclA 3 nuR mb k D w ho
    change Calls Tryz.prog 37 _ _ _ at C
    refine C.mono ?_
    rintro e w' ⟨rfl, h1, h2, hb⟩
    exact ⟨_, rfl, .inr ⟨_, rfl, ⟨hr, D, h1, hc, hD⟩, Nat.le_refl _⟩, hb⟩
theorem call_clw (W : World) (v : Value) : (callFunc 35 #[v]).run Tryz.prog W = .ok (.enter 35 #[v]) W := by kernel_rfl
theorem call_cle (W : World) (v : Value) : (callFunc 36 #[v]).run Tryz.prog W = .ok (.enter 36 #[v]) W := by kernel_rfl
theorem call_clm (W : World) (v : Value) : (callFunc 37 #[v]).run Tryz.prog W = .ok (.enter 37 #[v]) W := by kernel_rfl
theorem run_bBk (W : World) (a b c : Value) (h1 : ∃ p n q, a = .slice p n q) (h2 : ∃ p n q, b = .slice p n q) (h3 : ∃ p, c = .map p) : (Instr.build 56 #[(0, a), (1, b), (2, c)]).run Tryz.prog W = .ok (.agg #[a, b, c]) W := by
  obtain ⟨_, _, _, rfl⟩ := h1
  obtain ⟨_, _, _, rfl⟩ := h2
  obtain ⟨_, rfl⟩ := h3
  kernel_rfl
theorem MapM.form {w : World} {base k c : Nat} {vm : Value} {N : Int → Option Int} (h : MapM w base vm k c N) : ∃ p, vm = .map p := by
  rcases h with ⟨h, _⟩ | ⟨mb, h, _⟩
  · exact ⟨_, h⟩
  · exact ⟨_, h⟩
theorem WRow.form3 {w : World} {base : Nat} {v : Value} {L : List Wa} (h : WRow w base v L) : ∃ p n q, v = .slice p n q := by obtain ⟨a, cc, h1, _⟩ := waV_form h; exact ⟨a, _, cc, h1⟩
theorem ERow.form3 {w : World} {base : Nat} {v : Value} {L : List Ev} (h : ERow w base v L) : ∃ p n q, v = .slice p n q := by obtain ⟨a, cc, h1, _⟩ := evV_form h; exact ⟨a, _, cc, h1⟩
theorem run_boxBk (W : World) (a b c : Value) : (Instr.box 56 (.agg #[a, b, c])).run Tryz.prog W = .ok (.pointer (some ⟨W.heap.size, 0, none⟩)) (W.alloc (.cells #[a, b, c] 56)) := by go_simp
section
variable {P : Program} {Q : Exit → Act → World → Prop} {l : List Oper}
theorem gstep_box {i : Nat} {o : Oper} {a : Act} {w : World} {K : Act → World → Prop} (ho : l[i]? = some o) (hw : WantedIs l a o true) (t : TypeId) (s : Operand) (hop : o.op = .box t s) (v : Value) (he : a.eval s = v) (v' : Value) (w' : World)
    (hr : (Instr.box t v).run P w = .ok v' w') (h : K (a.put o.dst v') w') : Step P l Q i K a w :=
  gstep_value ho hw v' w' (by simp only [execOp, hop, he, Sem.run_bind, Sem.run_pure, hr, Result.andThen_ok]) h
theorem gstep_build3 {i : Nat} {o : Oper} {a : Act} {w : World} {K : Act → World → Prop} (ho : l[i]? = some o) (hw : WantedIs l a o true) (t : TypeId) (i1 i2 i3 : Nat) (s1 s2 s3 : Operand) (hop : o.op = .build t #[(i1, s1), (i2, s2), (i3, s3)]) (v1 v2 v3 : Value) (he1 : a.eval s1 = v1) (he2 : a.eval s2 = v2) (he3 : a.eval s3 = v3) (v' : Value)
    (hr : (Instr.build t #[(i1, v1), (i2, v2), (i3, v3)]).run P w = .ok v' w) (h : K (a.put o.dst v') w) : Step P l Q i K a w :=
  gstep_value ho hw v' w (by simp only [execOp, hop, List.map_toArray, List.map_cons, List.map_nil, he1, he2, he3, Sem.run_bind, Sem.run_pure, hr, Result.andThen_ok]) h
end
def FCl (bb : Nat) (vw ve vm : Value) : Nat → Value → Prop
  | 0, v => v = .pointer (some ⟨bb, 0, none⟩)
  | 1, v => v = .pointer (some ⟨bb, 0, none⟩)
  | 2, v => v = .pointer (some ⟨bb, 0, none⟩)
  | 3, v => v = vw
  | 5, v => v = .pointer (some ⟨bb, 0, none⟩)
  | 6, v => v = .pointer (some ⟨bb, 0, none⟩)
  | 7, v => v = .pointer (some ⟨bb, 1, none⟩)
  | 8, v => v = ve
  | 10, v => v = .pointer (some ⟨bb, 0, none⟩)
  | 11, v => v = .pointer (some ⟨bb, 0, none⟩)
  | 12, v => v = .pointer (some ⟨bb, 2, none⟩)
  | 13, v => v = vm
  | _, _ => True
/-- What has run of the region that clones. -/
structure JCl (wd : World) (Ws : List Wa) (Es : List Ev) (k c : Nat) (N : Int → Option Int) (b : Nat → Bool) (x : Nat → Value) (w : World) : Prop where
  bel : Below wd.heap.size wd w
  r4 : b 4 = true → WRow w wd.heap.size (x 4) Ws
  r9 : b 9 = true → ERow w wd.heap.size (x 9) Es
  r14 : b 14 = true → MapM w wd.heap.size (x 14) k c N
  r15 : b 15 = true → x 15 = .agg #[x 4, x 9, x 14] ∧ b 4 = true ∧ b 9 = true ∧ b 14 = true
  r16 : b 16 = true → ∃ tb, x 16 = .pointer (some ⟨tb, 0, none⟩) ∧ BkW w wd.heap.size tb (x 4) (x 9) (x 14) Ws Es k c N
  u16 : b 16 = true → b 4 = true ∧ b 9 = true ∧ b 14 = true ∧ b 15 = true
section
variable {wd w w' : World} {Ws : List Wa} {Es : List Ev} {k c : Nat} {N : Int → Option Int} {b : Nat → Bool} {x : Nat → Value}
theorem JCl.go {i : Nat} {v : Value} (h : JCl wd Ws Es k c N b x w) (hb : Below w.heap.size w w') (hi : 16 ≠ i) (h4 : i = 4 → b 4 = false ∧ WRow w' wd.heap.size v Ws) (h9 : i = 9 → b 9 = false ∧ ERow w' wd.heap.size v Es) (h14 : i = 14 → b 14 = false ∧ MapM w' wd.heap.size v k c N) (h15 : i = 15 → v = .agg #[x 4, x 9, x 14] ∧ b 4 = true ∧ b 9 = true ∧ b 14 = true) : JCl wd Ws Es k c N (setB b i) (setX x i v) w' := by
  have e15 : ∀ j, j = 4 ∨ j = 9 ∨ j = 14 → b 15 = true → i ≠ j := fun j hj q e => by
    obtain ⟨_, q1, q2, q3⟩ := h.r15 q
    rcases hj with rfl | rfl | rfl
    · rw [(h4 e).1] at q1; cases q1
    · rw [(h9 e).1] at q2; cases q2
    · rw [(h14 e).1] at q3; cases q3
  refine ⟨h.bel.trans (hb.mono h.bel.size), fun q => ?_, fun q => ?_, fun q => ?_, fun q => ?_, fun q => ?_, fun q => ?_⟩
  · by_cases e : i = 4
    · rw [← e, setX_same]; exact (h4 e).2
    · rw [setB_ne (fun y => e y.symm)] at q; rw [setX_ne (fun y => e y.symm)]; exact (h.r4 q).below hb
  · by_cases e : i = 9
    · rw [← e, setX_same]; exact (h9 e).2
    · rw [setB_ne (fun y => e y.symm)] at q; rw [setX_ne (fun y => e y.symm)]; exact (h.r9 q).below hb
  · by_cases e : i = 14
    · rw [← e, setX_same]; exact (h14 e).2
    · rw [setB_ne (fun y => e y.symm)] at q; rw [setX_ne (fun y => e y.symm)]; exact (h.r14 q).below hb
  · by_cases e : i = 15
    · obtain ⟨q1, q2, q3, q4⟩ := h15 e
      subst e
      rw [setX_same, setX_ne (by decide), setX_ne (by decide), setX_ne (by decide)]
      exact ⟨q1, setB_up q2, setB_up q3, setB_up q4⟩
    · rw [setB_ne (fun y => e y.symm)] at q
      obtain ⟨q1, q2, q3, q4⟩ := h.r15 q
      rw [setX_ne (fun y => e y.symm), setX_ne (fun y => e15 4 (.inl rfl) q y.symm), setX_ne (fun y => e15 9 (.inr (.inl rfl)) q y.symm), setX_ne (fun y => e15 14 (.inr (.inr rfl)) q y.symm)]
      exact ⟨q1, setB_up q2, setB_up q3, setB_up q4⟩
  · rw [setB_ne hi] at q
    have q15 := (h.u16 q).2.2.2
    obtain ⟨tb, q1, q2⟩ := h.r16 q
    rw [setX_ne hi, setX_ne (fun y => e15 4 (.inl rfl) q15 y.symm), setX_ne (fun y => e15 9 (.inr (.inl rfl)) q15 y.symm), setX_ne (fun y => e15 14 (.inr (.inr rfl)) q15 y.symm)]
    exact ⟨tb, q1, q2.below hb⟩
  · rw [setB_ne hi] at q
    obtain ⟨q1, q2, q3, q4⟩ := h.u16 q
    exact ⟨setB_up q1, setB_up q2, setB_up q3, setB_up q4⟩
theorem JCl.s16 (h : JCl wd Ws Es k c N b x w) (h15 : b 15 = true) : JCl wd Ws Es k c N (setB b 16) (setX x 16 (.pointer (some ⟨w.heap.size, 0, none⟩))) (w.alloc (.cells #[x 4, x 9, x 14] 56)) := by
  obtain ⟨q1, q2, q3, q4⟩ := h.r15 h15
  have hb := (Below.refl _ w).alloc (Nat.le_refl _) (.cells #[x 4, x 9, x 14] 56)
  have n4 : (4 : Nat) ≠ 16 := by decide
  have n9 : (9 : Nat) ≠ 16 := by decide
  have n14 : (14 : Nat) ≠ 16 := by decide
  have n15 : (15 : Nat) ≠ 16 := by decide
  refine ⟨h.bel.trans (hb.mono h.bel.size), fun q => ?_, fun q => ?_, fun q => ?_, fun q => ?_, fun q => ?_, fun q => ⟨setB_up q2, setB_up q3, setB_up q4, setB_up h15⟩⟩
  · rw [setX_ne n4]; exact (h.r4 q2).below hb
  · rw [setX_ne n9]; exact (h.r9 q3).below hb
  · rw [setX_ne n14]; exact (h.r14 q4).below hb
  · rw [setX_ne n4, setX_ne n9, setX_ne n14, setX_ne n15]; exact ⟨q1, setB_up q2, setB_up q3, setB_up q4⟩
  · rw [setX_same, setX_ne n4, setX_ne n9, setX_ne n14]
    exact ⟨_, rfl, ⟨heap_alloc_new w _, (h.r4 q2).below hb, (h.r9 q3).below hb, (h.r14 q4).below hb, h.bel.size, Nat.le_trans h.bel.size hb.size⟩⟩
end
set_option maxHeartbeats 8000000 in
theorem bclone_any (base bb : Nat) (vw ve vm : Value) (Ws : List Wa) (Es : List Ev) (k c : Nat) (N : Int → Option Int) (w : World) (h : BkW w base bb vw ve vm Ws Es k c N) (lw : Ws.length ≤ 100000) (le : Es.length ≤ 100000) :
    Calls Tryz.prog 15 #[.pointer (some ⟨bb, 0, none⟩)] w fun e w' => ∃ tb v1 v2 v3, e = .returned (.pointer (some ⟨tb, 0, none⟩)) ∧ BkW w' w.heap.size tb v1 v2 v3 Ws Es k c N ∧ Below w.heap.size w w' := by
  have HH := Lib.hid h
  have HVW : Hid (∃ a n c, vw = .slice a n c) := Lib.hid (by obtain ⟨a, cc, h1, _⟩ := waV_form h.ws; exact ⟨a, _, cc, h1⟩)
  have HVE : Hid (∃ a n c, ve = .slice a n c) := Lib.hid (by obtain ⟨a, cc, h1, _⟩ := evV_form h.es; exact ⟨a, _, cc, h1⟩)
  have HVM : Hid (∃ q, vm = .map q) := Lib.hid (by
    rcases h.last with ⟨hv, _⟩ | ⟨mb, hv, _⟩
    · exact ⟨_, hv⟩
    · exact ⟨_, hv⟩)
  clear h
  go_enter Tryz.func15, Tryz.ntmps15
  go_upto_region 3 with fail
  refine wp_region_inv_last 17 (IFJ (FCl bb vw ve vm) (JCl w Ws Es k c N)) (by kernel_rfl) (by kernel_rfl) (by kernel_rfl) (by kernel_rfl) (by kernel_rfl) ?_ ?_ ?_
  · intro z
    exact ⟨fun k hk => (by cases hk), ⟨(Below.refl _ w).drew, fun hk => (by cases hk), fun hk => (by cases hk), fun hk => (by cases hk), fun hk => (by cases hk), fun hk => (by cases hk), fun hk => (by cases hk)⟩⟩
  · intro i o hi ho b z w1 hI hbi hW
    have KB := HH.out.below hI.2.bel
    match i, ho with
    | 0, ho =>
      obtain rfl := Option.some.inj ho
      exact gstep_move rfl (wanted0 rfl) _ rfl _ (eval_of 0 _ (by kernel_rfl) rfl) ⟨_, rfl, IFJ.step hI rfl (hI.2.go (Below.refl _ _) (by decide) (fun e => (by cases e)) (fun e => (by cases e)) (fun e => (by cases e)) (fun e => (by cases e)))⟩
    | 1, ho =>
      obtain rfl := Option.some.inj ho
      exact gstep_nil rfl (wanted0 rfl) _ rfl _ (eval_at 6 0 _ (by kernel_rfl) (show 6 < 23 by decide) (hI.1 0 (hW 0 (by kernel_rfl)))) ⟨_, rfl, IFJ.step hI rfl (hI.2.go (Below.refl _ _) (by decide) (fun e => (by cases e)) (fun e => (by cases e)) (fun e => (by cases e)) (fun e => (by cases e)))⟩
    | 2, ho =>
      obtain rfl := Option.some.inj ho
      exact gstep_field rfl (wanted0 rfl) _ _ _ rfl _ (eval_at 7 1 _ (by kernel_rfl) (show 7 < 23 by decide) (hI.1 1 (hW 1 (by kernel_rfl)))) _ (run_bkF0 _ _) ⟨_, rfl, IFJ.step hI rfl (hI.2.go (Below.refl _ _) (by decide) (fun e => (by cases e)) (fun e => (by cases e)) (fun e => (by cases e)) (fun e => (by cases e)))⟩
    | 3, ho =>
      obtain rfl := Option.some.inj ho
      exact gstep_load rfl (wanted0 rfl) _ _ rfl _ (eval_at 8 2 _ (by kernel_rfl) (show 8 < 23 by decide) (hI.1 2 (hW 2 (by kernel_rfl)))) _ (run_lws _ _ _ HVW.out KB.c0) ⟨_, rfl, IFJ.step hI rfl (hI.2.go (Below.refl _ _) (by decide) (fun e => (by cases e)) (fun e => (by cases e)) (fun e => (by cases e)) (fun e => (by cases e)))⟩
    | 4, ho =>
      obtain rfl := Option.some.inj ho
      refine gstep_call rfl (wanted0 rfl) _ _ _ rfl _ (eval_at 9 3 _ (by kernel_rfl) (show 9 < 23 by decide) (hI.1 3 (hW 3 (by kernel_rfl)))) (call_clw w1 _) ?_
      refine (cl_wa base vw Ws w1 KB.ws lw).mono ?_
      rintro e w2 ⟨v', rfl, hv, hb⟩
      exact ⟨_, rfl, _, rfl, IFJ.step hI trivial (hI.2.go hb (by decide) (fun _ => ⟨hbi, hv.lessB hI.2.bel.size⟩) (fun e => (by cases e)) (fun e => (by cases e)) (fun e => (by cases e)))⟩
    | 5, ho =>
      obtain rfl := Option.some.inj ho
      exact gstep_move rfl (wanted0 rfl) _ rfl _ (eval_of 0 _ (by kernel_rfl) rfl) ⟨_, rfl, IFJ.step hI rfl (hI.2.go (Below.refl _ _) (by decide) (fun e => (by cases e)) (fun e => (by cases e)) (fun e => (by cases e)) (fun e => (by cases e)))⟩
    | 6, ho =>
      obtain rfl := Option.some.inj ho
      exact gstep_nil rfl (wanted0 rfl) _ rfl _ (eval_at 11 5 _ (by kernel_rfl) (show 11 < 23 by decide) (hI.1 5 (hW 5 (by kernel_rfl)))) ⟨_, rfl, IFJ.step hI rfl (hI.2.go (Below.refl _ _) (by decide) (fun e => (by cases e)) (fun e => (by cases e)) (fun e => (by cases e)) (fun e => (by cases e)))⟩
    | 7, ho =>
      obtain rfl := Option.some.inj ho
      exact gstep_field rfl (wanted0 rfl) _ _ _ rfl _ (eval_at 12 6 _ (by kernel_rfl) (show 12 < 23 by decide) (hI.1 6 (hW 6 (by kernel_rfl)))) _ (run_bkF1 _ _) ⟨_, rfl, IFJ.step hI rfl (hI.2.go (Below.refl _ _) (by decide) (fun e => (by cases e)) (fun e => (by cases e)) (fun e => (by cases e)) (fun e => (by cases e)))⟩
    | 8, ho =>
      obtain rfl := Option.some.inj ho
      exact gstep_load rfl (wanted0 rfl) _ _ rfl _ (eval_at 13 7 _ (by kernel_rfl) (show 13 < 23 by decide) (hI.1 7 (hW 7 (by kernel_rfl)))) _ (run_les _ _ _ HVE.out KB.c1) ⟨_, rfl, IFJ.step hI rfl (hI.2.go (Below.refl _ _) (by decide) (fun e => (by cases e)) (fun e => (by cases e)) (fun e => (by cases e)) (fun e => (by cases e)))⟩
    | 9, ho =>
      obtain rfl := Option.some.inj ho
      refine gstep_call rfl (wanted0 rfl) _ _ _ rfl _ (eval_at 14 8 _ (by kernel_rfl) (show 14 < 23 by decide) (hI.1 8 (hW 8 (by kernel_rfl)))) (call_cle w1 _) ?_
      refine (cl_ev base ve Es w1 KB.es le).mono ?_
      rintro e w2 ⟨v', rfl, hv, hb⟩
      exact ⟨_, rfl, _, rfl, IFJ.step hI trivial (hI.2.go hb (by decide) (fun e => (by cases e)) (fun _ => ⟨hbi, hv.lessB hI.2.bel.size⟩) (fun e => (by cases e)) (fun e => (by cases e)))⟩
    | 10, ho =>
      obtain rfl := Option.some.inj ho
      exact gstep_move rfl (wanted0 rfl) _ rfl _ (eval_of 0 _ (by kernel_rfl) rfl) ⟨_, rfl, IFJ.step hI rfl (hI.2.go (Below.refl _ _) (by decide) (fun e => (by cases e)) (fun e => (by cases e)) (fun e => (by cases e)) (fun e => (by cases e)))⟩
    | 11, ho =>
      obtain rfl := Option.some.inj ho
      exact gstep_nil rfl (wanted0 rfl) _ rfl _ (eval_at 16 10 _ (by kernel_rfl) (show 16 < 23 by decide) (hI.1 10 (hW 10 (by kernel_rfl)))) ⟨_, rfl, IFJ.step hI rfl (hI.2.go (Below.refl _ _) (by decide) (fun e => (by cases e)) (fun e => (by cases e)) (fun e => (by cases e)) (fun e => (by cases e)))⟩
    | 12, ho =>
      obtain rfl := Option.some.inj ho
      exact gstep_field rfl (wanted0 rfl) _ _ _ rfl _ (eval_at 17 11 _ (by kernel_rfl) (show 17 < 23 by decide) (hI.1 11 (hW 11 (by kernel_rfl)))) _ (run_bkF2 _ _) ⟨_, rfl, IFJ.step hI rfl (hI.2.go (Below.refl _ _) (by decide) (fun e => (by cases e)) (fun e => (by cases e)) (fun e => (by cases e)) (fun e => (by cases e)))⟩
    | 13, ho =>
      obtain rfl := Option.some.inj ho
      exact gstep_load rfl (wanted0 rfl) _ _ rfl _ (eval_at 18 12 _ (by kernel_rfl) (show 18 < 23 by decide) (hI.1 12 (hW 12 (by kernel_rfl)))) _ (run_lmp _ _ _ HVM.out KB.c2) ⟨_, rfl, IFJ.step hI rfl (hI.2.go (Below.refl _ _) (by decide) (fun e => (by cases e)) (fun e => (by cases e)) (fun e => (by cases e)) (fun e => (by cases e)))⟩
    | 14, ho =>
      obtain rfl := Option.some.inj ho
      refine gstep_call rfl (wanted0 rfl) _ _ _ rfl _ (eval_at 19 13 _ (by kernel_rfl) (show 19 < 23 by decide) (hI.1 13 (hW 13 (by kernel_rfl)))) (call_clm w1 _) ?_
      refine (mclone_any base k c vm N w1 KB.last).mono ?_
      rintro e w2 ⟨v', rfl, hv, hb⟩
      exact ⟨_, rfl, _, rfl, IFJ.step hI trivial (hI.2.go hb (by decide) (fun e => (by cases e)) (fun e => (by cases e)) (fun _ => ⟨hbi, hv.lessM hI.2.bel.size⟩) (fun e => (by cases e)))⟩
    | 15, ho =>
      obtain rfl := Option.some.inj ho
      have h4 : b 4 = true := hW 4 (by kernel_rfl)
      have h9 : b 9 = true := hW 9 (by kernel_rfl)
      have h14 : b 14 = true := hW 14 (by kernel_rfl)
      exact gstep_build3 rfl (wanted0 rfl) _ _ _ _ _ _ _ rfl _ _ _ (eval_at 10 4 _ (by kernel_rfl) (show 10 < 23 by decide) rfl) (eval_at 15 9 _ (by kernel_rfl) (show 15 < 23 by decide) rfl) (eval_at 20 14 _ (by kernel_rfl) (show 20 < 23 by decide) rfl) _ (run_bBk _ _ _ _ (hI.2.r4 h4).form3 (hI.2.r9 h9).form3 (hI.2.r14 h14).form) ⟨_, rfl, IFJ.step hI trivial (hI.2.go (Below.refl _ _) (by decide) (fun e => (by cases e)) (fun e => (by cases e)) (fun e => (by cases e)) (fun _ => ⟨rfl, h4, h9, h14⟩))⟩
    | 16, ho =>
      obtain rfl := Option.some.inj ho
      have h15 : b 15 = true := hW 15 (by kernel_rfl)
      have q15 := (hI.2.r15 h15).1
      exact gstep_box rfl (wanted0 rfl) _ _ rfl _ (eval_at 21 15 _ (by kernel_rfl) (show 21 < 23 by decide) q15) _ _ (run_boxBk _ _ _ _) ⟨_, rfl, IFJ.step hI trivial (hI.2.s16 h15)⟩
    | n + 17, ho => omega
  · intro o ho b z w9 hI hA
    obtain rfl := Option.some.inj ho
    obtain ⟨tb, h16, hk⟩ := hI.2.r16 (hA 16 (by decide))
    have HB9 := Lib.hid hI.2.bel
    have HK9 := Lib.hid hk
    refine gstep_assign rfl (wanted0 rfl) _ rfl _ (eval_at 22 16 _ (by kernel_rfl) (show 22 < 23 by decide) h16) ?_
    simp only [putAll, Act.put, List.setIfInBounds_toArray, List.set_cons_succ, List.set_cons_zero]
    generalize z 4 = y4 at *
    generalize z 9 = y9 at *
    generalize z 14 = y14 at *
    clear hI hA hk h16
    go_wp2_with fail
    go_ret
    exact ⟨tb, y4, y9, y14, rfl, HK9.out, HB9.out⟩
end Go.Proofs.YtbbdokfankgllaaGreatDoor
