/- Scrub: the copies of the list written again, on any device; what it answers. No conditions beyond those in each statement. -/
import Derived.Test.YtiknfifiglooeaaDoorChunkSt
import Derived.Test.YtiknfifiglooeaaDoorRegP
namespace Go.Proofs.YtiknfifiglooeaaDoor
open Go Go.RowKit Go.Proofs.Tryd
set_option linter.unusedVariables false
set_option maxRecDepth 100000

section
variable {P : Program} {Q : Exit → Act → World → Prop} {l : List Oper}
theorem gstep_call4 {i : Nat} {o : Oper} {a : Act} {w : World} {K : Act → World → Prop} (ho : l[i]? = some o) (hw : WantedIs l a o true) (f : FuncId) (s1 s2 s3 s4 : Operand) (ts : Array TypeId) (hop : o.op = .call { callee := .value (.func f), args := #[s1, s2, s3, s4], argTypes := ts }) (v1 v2 v3 v4 : Value) (he1 : a.eval s1 = v1) (he2 : a.eval s2 = v2) (he3 : a.eval s3 = v3) (he4 : a.eval s4 = v4) (hf : (callFunc f #[v1, v2, v3, v4]).run P w = .ok (.enter f #[v1, v2, v3, v4]) w)
    (h : Calls P f #[v1, v2, v3, v4] w fun e w'' => ∃ v, e = .returned v ∧ K (a.put o.dst v) w'') : Step P l Q i K a w :=
  gstep_enter ho hw f #[v1, v2, v3, v4] w (by simp only [execOp, hop, resolve, invoke, Deferred.ofValue, show a.eval (.func f) = .func (.func f) #[] #[] from rfl, List.map_toArray, List.map_cons, List.map_nil, he1, he2, he3, he4, Sem.run_bind, Sem.run_pure, Result.andThen_ok]; simpa using hf) h
end
/-- The array of what is intact. -/
def ArrB (w : World) (ib : Nat) (p : Bool × Bool) : Prop := w.heap[ib]? = some (.cells #[.bool p.1, .bool p.2] 160 (0, 0))
/-- .. when j copies have been read. -/
def arrS (X0 X1 : Bool) (j : Nat) : Bool × Bool := (if 1 ≤ j then X0 else false, if 2 ≤ j then X1 else false)
theorem ArrB.below {w x : World} {ib : Nat} {p : Bool × Bool} (h : ArrB w ib p) (hb : Below w.heap.size w x) : ArrB x ib p := (hb.block ib (lt_of_block h)).trans h
theorem ArrB.cells {w : World} {ib : Nat} {p : Bool × Bool} (h : ArrB w ib p) : (w.cell? ⟨ib, 0, none⟩ = some (.bool p.1) ∧ w.cell? ⟨ib, 1, none⟩ = some (.bool p.2)) ∧ w.frozen? ⟨ib, 0, none⟩ = false ∧ w.frozen? ⟨ib, 1, none⟩ = false := ⟨⟨cell_of h rfl, cell_of h rfl⟩, free_of h, free_of h⟩
theorem ArrB.set {w : World} {ib : Nat} {p : Bool × Bool} (h : ArrB w ib p) (j : Nat) (X : Bool) (hj : j < 2) : ArrB (w.setCell ⟨ib, j, none⟩ (.bool X)) ib (if j = 0 then X else p.1, if j = 1 then X else p.2) := by
  rcases (show j = 0 ∨ j = 1 by omega) with rfl | rfl
  · exact block_setCell (i := 0) h
  · exact block_setCell (i := 1) h
theorem run_ixB (W : World) (ib j : Nat) (hj : j < 2) : (Instr.indexAt 160 (.pointer (some ⟨ib, 0, none⟩)) (.int .i64 (j : Int))).run Tryd.prog W = .ok (.pointer (some ⟨ib, j, none⟩)) W := by
  have h1 : (j : Int) < 2 := by omega
  have h0 : (0 : Int) ≤ (j : Int) := by omega
  go_simp
theorem run_stB (W : World) (ib j : Nat) (X : Bool) {p : Bool × Bool} (hj : j < 2) (h : ArrB W ib p) : (Instr.storeAt 4 (.pointer (some ⟨ib, j, none⟩)) (.bool X)).run Tryd.prog W = .ok () (W.setCell ⟨ib, j, none⟩ (.bool X)) := by
  obtain ⟨⟨c0, c1⟩, f0, f1⟩ := h.cells
  rcases (show j = 0 ∨ j = 1 by omega) with rfl | rfl <;> go_simp
theorem cp_good {D : Dv} {q : Int} {l : Ls} {x : Int} (h : copyF D q = (l, x)) : l.Good ∨ l = ls0 := by
  unfold copyF at h
  split at h
  · have e : listF (D.sread q).1 = l := congrArg Prod.fst h
    rw [← e]; exact listF_in _
  · exact .inr (congrArg Prod.fst h).symm
theorem cp_len {D : Dv} {q : Int} {l : Ls} {x : Int} (h : copyF D q = (l, x)) : l.sums.length ≤ 1000000 := by
  rcases cp_good h with h | h
  · have := h.in; omega
  · rw [h]; decide
theorem cp_in {D : Dv} {q : Int} {l : Ls} {x : Int} (h : copyF D q = (l, x)) : ∀ z ∈ l.sums, 0 ≤ z ∧ z ≤ 4294967295 := by
  rcases cp_good h with h | h
  · exact h.sums
  · rw [h]; intro z hz; cases hz
open Classical in
/-- What Scrub answers, and the device behind it. -/
noncomputable def scrubF (D : Dv) (base area : Int) (l : Ls) : Int × Dv :=
  if (copyF D (base + area * 66 + 0)).2 ≠ 0 then ((copyF D (base + area * 66 + 0)).2, D) else
  if (copyF D (base + area * 66 + 1)).2 ≠ 0 then ((copyF D (base + area * 66 + 1)).2, D) else
  if sameB (copyF D (base + area * 66 + 0)).1 l = true then
    (if sameB (copyF D (base + area * 66 + 1)).1 l = true then (0, D) else D.pair (wcB base area 1 0) (wcB base area 1 1) (listR l))
  else D.pair (wcB base area 0 0) (wcB base area 0 1) (listR l)
set_option maxHeartbeats 8000000 in
theorem cscrub_any {m : Nat} {E : Nat → Prop} {w : World} {b B : Nat} {base : Int} {l : Ls} {sv : Value} {area : Int} {D : Dv} (h : StoW m E w b B base l sv area D) (h0 : l.index ≠ 0) (hm : m ≤ w.heap.size) (ht : ∀ x, Below m w x → Tabs x) (hw : D.writes ≤ 1073740000) :
    Calls Tryd.prog 45 #[.pointer (some ⟨b, 0, none⟩)] w fun e w' => e = .returned (.int .i64 (scrubF D base area l).1) ∧ StoW m E w' b B base l sv area (scrubF D base area l).2 ∧ Below m w w' ∧ Kept E w w' := by
  obtain ⟨i, t, n, ss⟩ := l
  obtain ⟨a, cap, rfl, hl, _⟩ := id h.sums
  simp only at hl h0
  have HE := Lib.hid (cempty_any h.st)
  rw [show decide (i = 0) = false from decide_eq_false h0] at HE
  obtain ⟨la, x0, hc0⟩ : ∃ la x0, copyF D (base + area * 66 + 0) = (la, x0) := ⟨_, _, rfl⟩
  obtain ⟨lc, x1, hc1⟩ : ∃ lc x1, copyF D (base + area * 66 + 1) = (lc, x1) := ⟨_, _, rfl⟩
  obtain ⟨X0, hX0⟩ : ∃ X, X = sameB la ⟨i, t, n, ss⟩ := ⟨_, rfl⟩
  obtain ⟨X1, hX1⟩ : ∃ X, X = sameB lc ⟨i, t, n, ss⟩ := ⟨_, rfl⟩
  have HSF : Hid (scrubF D base area ⟨i, t, n, ss⟩ = if x0 ≠ 0 then (x0, D) else if x1 ≠ 0 then (x1, D) else if X0 = true then (if X1 = true then (0, D) else D.pair (wcB base area 1 0) (wcB base area 1 1) (listR ⟨i, t, n, ss⟩)) else D.pair (wcB base area 0 0) (wcB base area 0 1) (listR ⟨i, t, n, ss⟩)) := by
    show _ = _
    unfold scrubF
    rw [hc0, hc1, hX0, hX1]
  have H := Lib.hid h
  have HT := Lib.hid ht
  have HMM := Lib.hid hm
  have HWW := Lib.hid hw
  have HBA : Hid (0 ≤ base ∧ base ≤ 1000000000) := h.base
  have HAR : Hid (area = 0 ∨ area = 1) := h.area
  have HEB : Hid (E b) := h.eb
  have HXX0 := Lib.hid hX0
  have HXX1 := Lib.hid hX1
  have HRC := Lib.hid (fun (W : World) (hb : Below w.heap.size w W) (k : Nat) (hk : k < 2) => creadc_any area (k : Int) (h.st.below hb) (h.dev.below hb) h.base (by have := h.area; omega) ⟨by omega, by omega⟩ (ht W (hb.mono hm)) (Nat.le_trans hw (by decide)))
  have HQ0 := Lib.hid hc0
  have HQ1 := Lib.hid hc1
  clear h ht hm hw hc0 hc1 hX0 hX1
  go_enter Tryd.func45, Tryd.ntmps45
  go_wp2_with fail
  refine HE.out.mono ?_
  rintro e w1 ⟨rfl, rfl⟩
  clear HE
  obtain ⟨ib, hib⟩ : ∃ q, q = w.heap.size := ⟨_, rfl⟩
  have A0 : ArrB (w.alloc (.cells #[.bool false, .bool false] 160)) w.heap.size (arrS X0 X1 0) := heap_alloc_new w _
  have B0 := (Below.refl w.heap.size w).alloc (Nat.le_refl _) (.cells #[.bool false, .bool false] 160)
  rw [← hib] at A0
  have HIB : Hid (w.heap.size ≤ ib) := by show _ ≤ _; omega
  go_wp2_with fail
  rw [← hib]
  generalize w.alloc (.cells #[.bool false, .bool false] 160) = w1 at A0 B0 ⊢
  clear hib
  have HA0 := Lib.hid A0
  have HB0 := Lib.hid B0
  clear A0 B0
  go_loopw [12] (fun z wr => ∃ j : Nat, j ≤ 2 ∧ z = .int .i64 (j : Int) ∧ (1 ≤ j → x0 = 0) ∧ (2 ≤ j → x1 = 0) ∧ ArrB wr ib (arrS X0 X1 j) ∧ Below w.heap.size w wr) (fun z _ => 2 - (intOf z).toNat)
  case atStart => exact ⟨0, by omega, rfl, fun h => by omega, fun h => by omega, HA0.out, HB0.out⟩
  case round =>
    obtain ⟨j, hj2, rfl, hz0, hz1, Aj, Bj⟩ := hrel
    clear HA0 HB0
    by_cases hlt : j < 2
    · have hlt' : (j : Int) < 2 := by omega
      have hj0 : (0 : Int) ≤ (j : Int) := by omega
      have HJ : Hid (j < 2) := hlt
      obtain ⟨l', x', X, hcq, hXs, hCn⟩ : ∃ l' x' X, copyF D (base + area * 66 + (j : Int)) = (l', x') ∧ X = sameB l' ⟨i, t, n, ss⟩ ∧ ((j = 0 ∧ x' = x0 ∧ X = X0) ∨ (j = 1 ∧ x' = x1 ∧ X = X1)) := by
        rcases (show j = 0 ∨ j = 1 by omega) with rfl | rfl
        · exact ⟨la, x0, X0, HQ0.out, HXX0.out, .inl ⟨rfl, rfl, rfl⟩⟩
        · exact ⟨lc, x1, X1, HQ1.out, HXX1.out, .inr ⟨rfl, rfl, rfl⟩⟩
      have HX := Lib.hid hXs
      have HCQ := Lib.hid hcq
      have HCN := Lib.hid hCn
      have HZ0 := Lib.hid hz0
      have HZ1 := Lib.hid hz1
      have HR := Lib.hid (HRC.out wr Bj j hlt)
      rw [hcq] at HR
      have HAJ := Lib.hid Aj
      have HBJ := Lib.hid Bj
      have HSJ := Lib.hid (H.out.below Bj)
      obtain ⟨⟨c0, c1, c2, c3, c4, c5, c6⟩, _⟩ := HSJ.out.st.cells
      simp only at c2 c3 c4 c5
      clear hcq hXs hCn hz0 hz1 Aj Bj hlt hj2
      go_wp2_with fail
      refine HR.out.mono ?_
      rintro e w3 ⟨sv', rfl, hrow, hb3⟩
      obtain ⟨sa, sc, rfl⟩ := slice_of hrow
      have HB3 := Lib.hid (HBJ.out.trans (hb3.mono HBJ.out.size))
      have HA3 := Lib.hid (HAJ.out.below hb3)
      have HR3 := Lib.hid hrow
      have L4 := LsB.new w3 l'.index l'.term l'.bytes (.slice sa l'.sums.length sc)
      have bA := (Below.refl w3.heap.size w3).alloc (Nat.le_refl _) (.cells #[.int .i64 l'.index, .int .i64 l'.term, .int .i64 l'.bytes, .slice sa l'.sums.length sc] 67)
      obtain ⟨lb, hlb⟩ : ∃ q, q = w3.heap.size := ⟨_, rfl⟩
      rw [← hlb] at L4
      clear hrow hb3 HR HBJ HAJ HSJ c0 c1 c2 c3 c4 c5 c6
      unfold lsV
      simp only
      by_cases hx : x' = 0
      case neg =>
        have hx2 : (x' != 0) = true := by simp [hx]
        have HV : Hid (scrubF D base area ⟨i, t, n, ss⟩ = (x', D)) := by
          show _ = _
          rw [HSF.out]
          rcases HCN.out with ⟨rfl, rfl, _⟩ | ⟨rfl, rfl, _⟩
          · exact if_pos hx
          · rw [if_neg (by rw [HZ0.out (by omega)]; decide), if_pos hx]
        have HBF := Lib.hid (HB3.out.trans (bA.mono HB3.out.size))
        have S4 := H.out.below HBF.out
        have hbl : Below m w _ := HBF.out.mono HMM.out
        have hkp : Kept E w _ := Kept.of_below H.out.dev.lt HBF.out
        go_wp2_with fail
        go_ret
        refine ⟨by rw [HV.out]; rfl, by rw [HV.out]; exact S4, hbl, hkp⟩
      subst hx
      go_upto_region 12 with fail
      rw [← hlb]
      generalize w3.alloc (.cells #[.int .i64 l'.index, .int .i64 l'.term, .int .i64 l'.bytes, .slice sa l'.sums.length sc] 67) = w4 at L4 bA ⊢
      have HL4 := Lib.hid L4
      have HA4 := Lib.hid (HA3.out.below bA)
      have HB4 := Lib.hid (HB3.out.trans (bA.mono HB3.out.size))
      have HM4 : Hid (SmR w4 (.slice sa l'.sums.length sc) l'.sums) := by
        exact SmR.below (SmR.of_row HR3.out (cp_len HCQ.out) (cp_in HCQ.out)) bA
      have HAS : Hid ((if j = 0 then X else (arrS X0 X1 j).1, if j = 1 then X else (arrS X0 X1 j).2) = arrS X0 X1 (j + 1)) := by
        show _ = _
        rcases HCN.out with ⟨rfl, _, rfl⟩ | ⟨rfl, _, rfl⟩ <;> simp [arrS]
      have HC0 : Hid (1 ≤ j + 1 → x0 = 0) := by
        show _ → _
        intro _
        rcases HCN.out with ⟨_, h, _⟩ | ⟨h, _, _⟩
        · exact h.symm
        · exact HZ0.out (by omega)
      have HC1 : Hid (2 ≤ j + 1 → x1 = 0) := by
        show _ → _
        intro hj
        rcases HCN.out with ⟨h, _, _⟩ | ⟨_, h, _⟩
        · omega
        · exact h.symm
      have HW : Hid (wrap64 ((j : Int) + 1) = (j : Int) + 1) := IntWalk.wrap64_in _ (by have := HJ.out; omega)
      have HLB := Lib.hid (fun (W : World) (hb : Below w4.drew.heap.size w4.drew W) => HL4.out.below (((Below.refl _ w4).drew).trans hb))
      have HAB := Lib.hid (fun (W : World) (hb : Below w4.drew.heap.size w4.drew W) => HA4.out.below (((Below.refl _ w4).drew).trans hb))
      have HBU := Lib.hid (fun (W : World) (hb : Below w4.drew.heap.size w4.drew W) => show Below w.heap.size w W from (HB4.out.trans ((((Below.refl _ w4).drew).trans hb).mono HB4.out.size)))
      have HSB := Lib.hid (fun (W : World) (hb : Below w4.drew.heap.size w4.drew W) => H.out.below (HBU.out W hb))
      have HSL := Lib.hid (fun (W : World) (hb : Below w4.drew.heap.size w4.drew W) => HM4.out.below (((Below.refl _ w4).drew).trans hb))
      clear HL4 HA4 HB4 HM4 L4 bA HR3 HA3 HB3 hlb HCN HZ0 HZ1
      refine wp_region_steps_last 8 (atP [fun v _ => v = (.int .i64 (j : Int)),
        fun v _ => v = (.agg #[.int .i64 l'.index, .int .i64 l'.term, .int .i64 l'.bytes, .slice sa l'.sums.length sc]),
        fun v _ => v = (.pointer (some ⟨b, 0, none⟩)),
        fun v _ => v = (.pointer (some ⟨b, 0, none⟩)),
        fun v _ => v = (.pointer (some ⟨b, 2, none⟩)),
        fun v _ => v = (.agg #[.int .i64 i, .int .i64 t, .int .i64 n, .slice a ss.length cap]),
        fun v _ => v = (.bool X),
        fun v _ => v = (.pointer (some ⟨ib, j, none⟩))]) (fun w w' => Below w.heap.size w w') (by kernel_rfl) (by kernel_rfl) (by kernel_rfl) (by kernel_rfl) (by kernel_rfl) (Below.refl _ _) (fun i v w w' _ h1 h2 => atP_keep (R := fun w w' => Below w.heap.size w w') (atK1 (fun _ _ _ h _ => h) (atK1 (fun _ _ _ h _ => h) (atK1 (fun _ _ _ h _ => h) (atK1 (fun _ _ _ h _ => h) (atK1 (fun _ _ _ h _ => h) (atK1 (fun _ _ _ h _ => h) (atK1 (fun _ _ _ h _ => h) (atK1 (fun _ _ _ h _ => h) (atK0))))))))) i h1 h2) (fun u v w h1 h2 => h1.trans (h2.mono h1.size)) ?_ ?_
      · intro q9 o hq9 ho x W1 hR hF
        match q9, ho with
        | 0, ho =>
          obtain rfl := Option.some.inj ho
          exact gstep_move rfl (wanted0 rfl) _ rfl _ (eval_of 4 _ (by kernel_rfl) rfl) ⟨_, rfl, rfl, Below.refl _ _⟩
        | 1, ho =>
          obtain rfl := Option.some.inj ho
          exact gstep_load rfl (wanted0 rfl) _ _ rfl _ (eval_of 5 _ (by kernel_rfl) rfl) _ (run_loadLs W1 _ _ _ _ _ _ _ (HLB.out W1 hR)) ⟨_, rfl, rfl, Below.refl _ _⟩
        | 2, ho =>
          obtain rfl := Option.some.inj ho
          exact gstep_move rfl (wanted0 rfl) _ rfl _ (eval_of 0 _ (by kernel_rfl) rfl) ⟨_, rfl, rfl, Below.refl _ _⟩
        | 3, ho =>
          obtain rfl := Option.some.inj ho
          exact gstep_nil rfl (wanted0 rfl) _ rfl _ (eval_at 30 2 _ (by kernel_rfl) (show 30 < 67 by decide) (hF 2 (by kernel_rfl))) ⟨_, rfl, rfl, Below.refl _ _⟩
        | 4, ho =>
          obtain rfl := Option.some.inj ho
          exact gstep_field rfl (wanted0 rfl) _ _ _ rfl _ (eval_at 31 3 _ (by kernel_rfl) (show 31 < 67 by decide) (hF 3 (by kernel_rfl))) _ ((by go_simp)) ⟨_, rfl, rfl, Below.refl _ _⟩
        | 5, ho =>
          obtain rfl := Option.some.inj ho
          exact gstep_load rfl (wanted0 rfl) _ _ rfl _ (eval_at 32 4 _ (by kernel_rfl) (show 32 < 67 by decide) (hF 4 (by kernel_rfl))) _ (run_loadCl W1 _ _ _ _ _ _ _ _ _ _ (HSB.out W1 hR).st) ⟨_, rfl, rfl, Below.refl _ _⟩
        | 6, ho =>
          obtain rfl := Option.some.inj ho
          refine gstep_call2 rfl (wanted0 rfl) _ _ _ _ rfl _ _ (eval_at 29 1 _ (by kernel_rfl) (show 29 < 67 by decide) (hF 1 (by kernel_rfl))) (eval_at 33 5 _ (by kernel_rfl) (show 33 < 67 by decide) (hF 5 (by kernel_rfl))) (by go_simp) ?_
          refine (csame_any l' ⟨i, t, n, ss⟩ _ _ W1 (HSL.out W1 hR) (HSB.out W1 hR).sums).mono ?_
          rintro e w2 ⟨rfl, hb⟩
          exact ⟨_, rfl, _, rfl, congrArg Value.bool HX.out.symm, hb⟩
        | 7, ho =>
          obtain rfl := Option.some.inj ho
          exact gstep_index rfl (wanted0 rfl) _ _ _ rfl _ _ (eval_of 3 _ (by kernel_rfl) rfl) (eval_at 28 0 _ (by kernel_rfl) (show 28 < 67 by decide) (hF 0 (by kernel_rfl))) _ (run_ixB W1 ib j HJ.out) ⟨_, rfl, rfl, Below.refl _ _⟩
        | n + 8, ho => exact absurd hq9 (by omega)
      · intro o ho x w5 hR hF
        obtain rfl := Option.some.inj ho
        have h6 : x 6 = .bool X := hF 6 (by decide)
        have h7 : x 7 = .pointer (some ⟨ib, j, none⟩) := hF 7 (by decide)
        have A5 := HAB.out w5 hR
        have B5 := HBU.out w5 hR
        refine gstep_store rfl (wanted0 rfl) _ _ _ rfl _ _ (eval_at 35 7 _ (by kernel_rfl) (show 35 < 67 by decide) h7) (eval_at 34 6 _ (by kernel_rfl) (show 34 < 67 by decide) h6) _ (run_stB w5 ib j X HJ.out A5) ?_
        have A6 : ArrB (w5.setCell ⟨ib, j, none⟩ (.bool X)) ib (arrS X0 X1 (j + 1)) := by
          have := A5.set j X HJ.out
          rw [HAS.out] at this
          exact this
        have B6 := B5.setCell (p := ⟨ib, j, none⟩) HIB.out (.bool X)
        generalize w5.setCell ⟨ib, j, none⟩ (.bool X) = w6 at A6 B6 ⊢
        simp only [putAll, Act.put, List.setIfInBounds_toArray, List.set_cons_succ, List.set_cons_zero]
        clear hR hF h6 h7 A5 B5
        go_wp2_with fail
        refine ⟨⟨j + 1, (by have := HJ.out; omega), by simp, HC0.out, HC1.out, A6, B6⟩, ?_⟩
        have := HJ.out
        simp [intOf]
        omega
    · obtain rfl : j = 2 := by omega
      have hz0' := hz0 (by omega)
      have hz1' := hz1 (by omega)
      have HSJ := Lib.hid (H.out.below Bj)
      obtain ⟨⟨a0, a1⟩, _⟩ := Aj.cells
      rw [show arrS X0 X1 2 = (X0, X1) by simp [arrS]] at a0 a1
      simp only at a0 a1
      have HBJ := Lib.hid Bj
      have HSG := HSF.out
      rw [if_neg (by rw [hz0']; decide), if_neg (by rw [hz1']; decide)] at HSG
      have HSG2 := Lib.hid HSG
      have HBU := Lib.hid (fun (W : World) (hb : Below wr.drew.heap.size wr.drew W) => show Below w.heap.size w W from (HBJ.out.trans ((((Below.refl _ wr).drew).trans hb).mono HBJ.out.size)))
      have HBW := Lib.hid (fun (W : World) (hb : Below wr.drew.heap.size wr.drew W) => show Below m w W from (HBU.out W hb).mono HMM.out)
      have HKW := Lib.hid (fun (W : World) (hb : Below wr.drew.heap.size wr.drew W) => show Kept E w W from Kept.of_below H.out.dev.lt (HBU.out W hb))
      have HSB := Lib.hid (fun (W : World) (hb : Below wr.drew.heap.size wr.drew W) => H.out.below (HBU.out W hb))
      have HOW := Lib.hid (fun (g : Nat) (hg : (Value.slice a ss.length cap).ownBlock = some g) => (H.out.own g hg).1)
      clear hz0 hz1 hz0' hz1' Aj Bj HSG hlt
      have hwr : w.heap.size ≤ wr.heap.size := HBJ.out.size
      have hmw : m ≤ w.heap.size := HMM.out
      cases X0 with
      | true =>
        cases X1 with
        | true =>
          have HV : Hid (scrubF D base area ⟨i, t, n, ss⟩ = (0, D)) := by show _ = _; rw [HSG2.out, if_pos rfl, if_pos rfl]
          have S4 := HSJ.out
          have hbl : Below m w wr := HBJ.out.mono HMM.out
          have hkp : Kept E w wr := Kept.of_below H.out.dev.lt HBJ.out
          go_wp2_with fail
          go_ret
          refine ⟨by rw [HV.out]; rfl, by rw [HV.out]; exact S4, hbl, hkp⟩
        | false =>
          have HV : Hid (scrubF D base area ⟨i, t, n, ss⟩ = D.pair (wcB base area 1 0) (wcB base area 1 1) (listR ⟨i, t, n, ss⟩)) := by show _ = _; rw [HSG2.out, if_pos rfl, if_neg (by decide)]
          have HWC := Lib.hid (fun (W : World) (hb : Below wr.drew.heap.size wr.drew W) => cwritec_any (m := m) area 1 ⟨i, t, n, ss⟩ (.slice a ss.length cap) (HSB.out W hb).dev (HSB.out W hb).st HEB.out (Nat.le_trans HMM.out (HBU.out W hb).size) (fun x hx => HT.out x ((HBW.out W hb).trans hx)) HWW.out (HSB.out W hb).sums (fun g hg => HOW.out g hg) H.out.bytes HBA.out (by have := HAR.out; omega) (.inr rfl))
          unfold lsV at HWC
          simp only at HWC
          go_upto_region 17 with fail
          clear a0 a1 hwr hmw
          refine wp_region_steps_tail 9 1 (atP [fun v _ => v = (.pointer (some ⟨b, 0, none⟩)),
            fun v _ => v = (.pointer (some ⟨b, 0, none⟩)),
            fun v _ => v = (.pointer (some ⟨b, 0, none⟩)),
            fun v _ => v = (.pointer (some ⟨b, 6, none⟩)),
            fun v _ => v = (.int .i64 area),
            fun v _ => v = (.pointer (some ⟨b, 0, none⟩)),
            fun v _ => v = (.pointer (some ⟨b, 0, none⟩)),
            fun v _ => v = (.pointer (some ⟨b, 2, none⟩)),
            fun v _ => v = (.agg #[.int .i64 i, .int .i64 t, .int .i64 n, .slice a ss.length cap])]) (fun w w' => Below w.heap.size w w') (by kernel_rfl) (by kernel_rfl) (by kernel_rfl) (by kernel_rfl) (by kernel_rfl) (by kernel_rfl) (Below.refl _ _) (fun i v w w' _ h1 h2 => atP_keep (R := fun w w' => Below w.heap.size w w') (atK1 (fun _ _ _ h _ => h) (atK1 (fun _ _ _ h _ => h) (atK1 (fun _ _ _ h _ => h) (atK1 (fun _ _ _ h _ => h) (atK1 (fun _ _ _ h _ => h) (atK1 (fun _ _ _ h _ => h) (atK1 (fun _ _ _ h _ => h) (atK1 (fun _ _ _ h _ => h) (atK1 (fun _ _ _ h _ => h) (atK0)))))))))) i h1 h2) (fun u v w h1 h2 => h1.trans (h2.mono h1.size)) ?_ ?_
          · intro q9 o hq9 ho x W1 hR hF _
            match q9, ho with
            | 0, ho =>
              obtain rfl := Option.some.inj ho
              exact gstep_move rfl (wanted0 rfl) _ rfl _ (eval_of 0 _ (by kernel_rfl) rfl) ⟨_, rfl, rfl, Below.refl _ _⟩
            | 1, ho =>
              obtain rfl := Option.some.inj ho
              exact gstep_move rfl (wanted0 rfl) _ rfl _ (eval_of 0 _ (by kernel_rfl) rfl) ⟨_, rfl, rfl, Below.refl _ _⟩
            | 2, ho =>
              obtain rfl := Option.some.inj ho
              exact gstep_nil rfl (wanted0 rfl) _ rfl _ (eval_at 48 1 _ (by kernel_rfl) (show 48 < 67 by decide) (hF 1 (by kernel_rfl))) ⟨_, rfl, rfl, Below.refl _ _⟩
            | 3, ho =>
              obtain rfl := Option.some.inj ho
              exact gstep_field rfl (wanted0 rfl) _ _ _ rfl _ (eval_at 49 2 _ (by kernel_rfl) (show 49 < 67 by decide) (hF 2 (by kernel_rfl))) _ ((by go_simp)) ⟨_, rfl, rfl, Below.refl _ _⟩
            | 4, ho =>
              obtain rfl := Option.some.inj ho
              exact gstep_load rfl (wanted0 rfl) _ _ rfl _ (eval_at 50 3 _ (by kernel_rfl) (show 50 < 67 by decide) (hF 3 (by kernel_rfl))) _ (run_loadI W1 _ _ (HSB.out W1 hR).st.cells.1.2.2.2.2.2.2) ⟨_, rfl, rfl, Below.refl _ _⟩
            | 5, ho =>
              obtain rfl := Option.some.inj ho
              exact gstep_move rfl (wanted0 rfl) _ rfl _ (eval_of 0 _ (by kernel_rfl) rfl) ⟨_, rfl, rfl, Below.refl _ _⟩
            | 6, ho =>
              obtain rfl := Option.some.inj ho
              exact gstep_nil rfl (wanted0 rfl) _ rfl _ (eval_at 52 5 _ (by kernel_rfl) (show 52 < 67 by decide) (hF 5 (by kernel_rfl))) ⟨_, rfl, rfl, Below.refl _ _⟩
            | 7, ho =>
              obtain rfl := Option.some.inj ho
              exact gstep_field rfl (wanted0 rfl) _ _ _ rfl _ (eval_at 53 6 _ (by kernel_rfl) (show 53 < 67 by decide) (hF 6 (by kernel_rfl))) _ ((by go_simp)) ⟨_, rfl, rfl, Below.refl _ _⟩
            | 8, ho =>
              obtain rfl := Option.some.inj ho
              exact gstep_load rfl (wanted0 rfl) _ _ rfl _ (eval_at 54 7 _ (by kernel_rfl) (show 54 < 67 by decide) (hF 7 (by kernel_rfl))) _ (run_loadCl W1 _ _ _ _ _ _ _ _ _ _ (HSB.out W1 hR).st) ⟨_, rfl, rfl, Below.refl _ _⟩
            | n + 9, ho => exact absurd hq9 (by omega)
          · intro x w5 hR hF
            refine gstep_call4 rfl (wanted0 rfl) _ _ _ _ _ _ rfl _ _ _ _ (eval_at 47 0 _ (by kernel_rfl) (show 47 < 67 by decide) (hF 0 (by decide))) (eval_at 51 4 _ (by kernel_rfl) (show 51 < 67 by decide) (hF 4 (by decide))) rfl (eval_at 55 8 _ (by kernel_rfl) (show 55 < 67 by decide) (hF 8 (by decide))) (by go_simp) ?_
            refine (HWC.out w5 hR).mono ?_
            rintro e w6 ⟨rfl, D6, b6, k6⟩
            have S6 := (HSB.out w5 hR).turn D6 k6 (fun _ h => h) b6.size
            have hbl : Below m w w6 := (HBW.out w5 hR).trans b6
            have hkp : Kept E w w6 := (HKW.out w5 hR).trans k6
            refine ⟨_, rfl, ?_⟩
            unfold tailK
            refine gstep_assign rfl (wanted0 rfl) _ rfl (.int .i64 (D.pair (wcB base area 1 0) (wcB base area 1 1) (listR ⟨i, t, n, ss⟩)).1) ?_ ?_
            · simp only [putAll, Act.put, List.setIfInBounds_toArray, List.set_cons_succ, List.set_cons_zero]
              rfl
            · unfold tailK
              simp only [putAll, Act.put, List.setIfInBounds_toArray, List.set_cons_succ, List.set_cons_zero]
              clear hR hF D6 b6 k6
              go_wp2_with fail
              go_ret
              exact ⟨by rw [HV.out]; rfl, by rw [HV.out]; exact S6, hbl, hkp⟩
      | false =>
        have HV : Hid (scrubF D base area ⟨i, t, n, ss⟩ = D.pair (wcB base area 0 0) (wcB base area 0 1) (listR ⟨i, t, n, ss⟩)) := by show _ = _; rw [HSG2.out, if_neg (by decide)]
        have HWC := Lib.hid (fun (W : World) (hb : Below wr.drew.heap.size wr.drew W) => cwritec_any (m := m) area 0 ⟨i, t, n, ss⟩ (.slice a ss.length cap) (HSB.out W hb).dev (HSB.out W hb).st HEB.out (Nat.le_trans HMM.out (HBU.out W hb).size) (fun x hx => HT.out x ((HBW.out W hb).trans hx)) HWW.out (HSB.out W hb).sums (fun g hg => HOW.out g hg) H.out.bytes HBA.out (by have := HAR.out; omega) (.inl rfl))
        unfold lsV at HWC
        simp only at HWC
        go_upto_region 18 with fail
        clear a0 a1 hwr hmw
        refine wp_region_steps_tail 9 1 (atP [fun v _ => v = (.pointer (some ⟨b, 0, none⟩)),
          fun v _ => v = (.pointer (some ⟨b, 0, none⟩)),
          fun v _ => v = (.pointer (some ⟨b, 0, none⟩)),
          fun v _ => v = (.pointer (some ⟨b, 6, none⟩)),
          fun v _ => v = (.int .i64 area),
          fun v _ => v = (.pointer (some ⟨b, 0, none⟩)),
          fun v _ => v = (.pointer (some ⟨b, 0, none⟩)),
          fun v _ => v = (.pointer (some ⟨b, 2, none⟩)),
          fun v _ => v = (.agg #[.int .i64 i, .int .i64 t, .int .i64 n, .slice a ss.length cap])]) (fun w w' => Below w.heap.size w w') (by kernel_rfl) (by kernel_rfl) (by kernel_rfl) (by kernel_rfl) (by kernel_rfl) (by kernel_rfl) (Below.refl _ _) (fun i v w w' _ h1 h2 => atP_keep (R := fun w w' => Below w.heap.size w w') (atK1 (fun _ _ _ h _ => h) (atK1 (fun _ _ _ h _ => h) (atK1 (fun _ _ _ h _ => h) (atK1 (fun _ _ _ h _ => h) (atK1 (fun _ _ _ h _ => h) (atK1 (fun _ _ _ h _ => h) (atK1 (fun _ _ _ h _ => h) (atK1 (fun _ _ _ h _ => h) (atK1 (fun _ _ _ h _ => h) (atK0)))))))))) i h1 h2) (fun u v w h1 h2 => h1.trans (h2.mono h1.size)) ?_ ?_
        · intro q9 o hq9 ho x W1 hR hF _
          match q9, ho with
          | 0, ho =>
            obtain rfl := Option.some.inj ho
            exact gstep_move rfl (wanted0 rfl) _ rfl _ (eval_of 0 _ (by kernel_rfl) rfl) ⟨_, rfl, rfl, Below.refl _ _⟩
          | 1, ho =>
            obtain rfl := Option.some.inj ho
            exact gstep_move rfl (wanted0 rfl) _ rfl _ (eval_of 0 _ (by kernel_rfl) rfl) ⟨_, rfl, rfl, Below.refl _ _⟩
          | 2, ho =>
            obtain rfl := Option.some.inj ho
            exact gstep_nil rfl (wanted0 rfl) _ rfl _ (eval_at 58 1 _ (by kernel_rfl) (show 58 < 67 by decide) (hF 1 (by kernel_rfl))) ⟨_, rfl, rfl, Below.refl _ _⟩
          | 3, ho =>
            obtain rfl := Option.some.inj ho
            exact gstep_field rfl (wanted0 rfl) _ _ _ rfl _ (eval_at 59 2 _ (by kernel_rfl) (show 59 < 67 by decide) (hF 2 (by kernel_rfl))) _ ((by go_simp)) ⟨_, rfl, rfl, Below.refl _ _⟩
          | 4, ho =>
            obtain rfl := Option.some.inj ho
            exact gstep_load rfl (wanted0 rfl) _ _ rfl _ (eval_at 60 3 _ (by kernel_rfl) (show 60 < 67 by decide) (hF 3 (by kernel_rfl))) _ (run_loadI W1 _ _ (HSB.out W1 hR).st.cells.1.2.2.2.2.2.2) ⟨_, rfl, rfl, Below.refl _ _⟩
          | 5, ho =>
            obtain rfl := Option.some.inj ho
            exact gstep_move rfl (wanted0 rfl) _ rfl _ (eval_of 0 _ (by kernel_rfl) rfl) ⟨_, rfl, rfl, Below.refl _ _⟩
          | 6, ho =>
            obtain rfl := Option.some.inj ho
            exact gstep_nil rfl (wanted0 rfl) _ rfl _ (eval_at 62 5 _ (by kernel_rfl) (show 62 < 67 by decide) (hF 5 (by kernel_rfl))) ⟨_, rfl, rfl, Below.refl _ _⟩
          | 7, ho =>
            obtain rfl := Option.some.inj ho
            exact gstep_field rfl (wanted0 rfl) _ _ _ rfl _ (eval_at 63 6 _ (by kernel_rfl) (show 63 < 67 by decide) (hF 6 (by kernel_rfl))) _ ((by go_simp)) ⟨_, rfl, rfl, Below.refl _ _⟩
          | 8, ho =>
            obtain rfl := Option.some.inj ho
            exact gstep_load rfl (wanted0 rfl) _ _ rfl _ (eval_at 64 7 _ (by kernel_rfl) (show 64 < 67 by decide) (hF 7 (by kernel_rfl))) _ (run_loadCl W1 _ _ _ _ _ _ _ _ _ _ (HSB.out W1 hR).st) ⟨_, rfl, rfl, Below.refl _ _⟩
          | n + 9, ho => exact absurd hq9 (by omega)
        · intro x w5 hR hF
          refine gstep_call4 rfl (wanted0 rfl) _ _ _ _ _ _ rfl _ _ _ _ (eval_at 57 0 _ (by kernel_rfl) (show 57 < 67 by decide) (hF 0 (by decide))) (eval_at 61 4 _ (by kernel_rfl) (show 61 < 67 by decide) (hF 4 (by decide))) rfl (eval_at 65 8 _ (by kernel_rfl) (show 65 < 67 by decide) (hF 8 (by decide))) (by go_simp) ?_
          refine (HWC.out w5 hR).mono ?_
          rintro e w6 ⟨rfl, D6, b6, k6⟩
          have S6 := (HSB.out w5 hR).turn D6 k6 (fun _ h => h) b6.size
          have hbl : Below m w w6 := (HBW.out w5 hR).trans b6
          have hkp : Kept E w w6 := (HKW.out w5 hR).trans k6
          refine ⟨_, rfl, ?_⟩
          unfold tailK
          refine gstep_assign rfl (wanted0 rfl) _ rfl (.int .i64 (D.pair (wcB base area 0 0) (wcB base area 0 1) (listR ⟨i, t, n, ss⟩)).1) ?_ ?_
          · simp only [putAll, Act.put, List.setIfInBounds_toArray, List.set_cons_succ, List.set_cons_zero]
            rfl
          · unfold tailK
            simp only [putAll, Act.put, List.setIfInBounds_toArray, List.set_cons_succ, List.set_cons_zero]
            clear hR hF D6 b6 k6
            go_wp2_with fail
            go_ret
            exact ⟨by rw [HV.out]; rfl, by rw [HV.out]; exact S6, hbl, hkp⟩
end Go.Proofs.YtiknfifiglooeaaDoor
