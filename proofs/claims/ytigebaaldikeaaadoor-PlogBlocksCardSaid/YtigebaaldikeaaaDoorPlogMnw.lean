/- plog's mend: an entry is written again, unless it is intact, and its mark. No conditions beyond those in each statement. -/
import Derived.Test.YtigebaaldikeaaaDoorPlogLd
namespace Go.Proofs.YtigebaaldikeaaaDoor
open Go.RowKit
set_option linter.unusedVariables false
set_option maxRecDepth 100000

open Classical in
/-- What mend writes first. -/
noncomputable def mendL (D : Dv) (L : Lg) (x : En) : List Rc := if (D.sread (L.blk 2 x.index)).1 = entR x then [] else [entR x]
open Classical in
/-- What mend does. -/
noncomputable def Dv.mendV (D : Dv) (L : Lg) (x : En) : Int × Dv :=
  if (D.sread (L.blk 2 x.index)).2.2 ≠ 0 then ((D.sread (L.blk 2 x.index)).2.2, D)
  else if (D.wr L (mendL D L x)).1 ≠ 0 then D.wr L (mendL D L x) else (D.wr L (mendL D L x)).2.wr L [mkR x]
theorem run_loadE (W : World) (b : Nat) (x : En) (h : EnB W b x) : (Instr.loadAt 60 (.pointer (some ⟨b, 0, none⟩))).run Tryd.prog W = .ok (enV x) W := by
  obtain ⟨⟨c0, c1, c2⟩, _⟩ := h.cells
  unfold enV
  go_simp
set_option maxHeartbeats 4000000 in
theorem pmendw_any {n : Nat} {E : Nat → Prop} {w : World} {B : Nat} {D : Dv} {b bt bd : Nat} {L : Lg} (x : En) (hW : DevW n E w B D) (hL : LogB w b B bt bd L) (hE : E b) (hn : n ≤ w.heap.size)
    (ht : ∀ x, Below n w x → Tabs x) (hw : D.writes ≤ 1071000000) (hf : L.Fit) (hi : 0 ≤ x.index) (V : Int × Dv) (hV : V = D.mendV L x) :
    Calls Tryd.prog 51 #[.pointer (some ⟨b, 0, none⟩), enV x] w fun e w' => e = .returned (.int .i64 V.1) ∧ DevW n E w' B V.2 ∧ Below n w w' ∧ Kept E w w' := by
  have HT := Lib.hid ht
  have HF := Lib.hid hf
  have HIX := Lib.hid hi
  have HX0 := Lib.hid hW
  have HL0 := Lib.hid hL
  have HE := Lib.hid hE
  have HWR := Lib.hid hw
  obtain ⟨rs, hrs⟩ : ∃ rs, rs = mendL D L x := ⟨_, rfl⟩
  have HRS := Lib.hid hrs
  obtain ⟨X, hX⟩ : ∃ X, X = D.sread (L.blk 2 x.index) := ⟨_, rfl⟩
  have HV : Hid (V = if X.2.2 ≠ 0 then (X.2.2, D) else if (D.wr L rs).1 ≠ 0 then D.wr L rs else (D.wr L rs).2.wr L [mkR x]) := by
    show V = _
    rw [hV, hX, hrs]
    rfl
  have HRX : Hid ((X.1 = entR x → rs = []) ∧ (X.1 ≠ entR x → rs = [entR x])) := by
    show _ ∧ _
    rw [hrs, hX]
    unfold mendL
    exact ⟨fun h => by rw [if_pos h], fun h => by rw [if_neg h]⟩
  have HRL : Hid (rs.length ≤ 1) := by
    show rs.length ≤ 1
    by_cases h : X.1 = entR x
    · rw [HRX.out.1 h]; decide
    · rw [HRX.out.2 h]; exact Nat.le_refl 1
  have HRI : Hid (∀ r ∈ rs, 0 ≤ r.index) := by
    show ∀ r ∈ rs, 0 ≤ r.index
    by_cases h : X.1 = entR x
    · rw [HRX.out.1 h]; intro r hr; cases hr
    · rw [HRX.out.2 h]; intro r hr; rw [List.mem_singleton.1 hr]; exact hi
  have HS := Lib.hid (fun (W : World) (hb : Below w.heap.size w W) => devw_sread (L.blk 2 x.index) (HT.out _ (hb.mono hn)) (by omega) (hW.below hb))
  rw [← hX] at HS
  have HBL := Lib.hid (fun (W : World) (hb : Below w.heap.size w W) => pblock_any 2 x.index (hL.below hb) (by have := hf.size; omega) (by have := hf.base; omega) hi)
  have HLC := Lib.hid (fun (W : World) (hb : Below w.heap.size w W) => (hL.below hb).cells)
  have HRO := Lib.hid (fun (W : World) => prec_any x W)
  have HMO := Lib.hid (fun (W : World) => pmark_any x.index x.term W)
  have hbw := hL.lt
  obtain ⟨r, st, er⟩ := X
  unfold sreadV recV at HS
  simp only at HS HV HRX
  unfold enV recV entR at HRO
  unfold recV markR at HMO
  simp only at HRO HMO
  have N1 := EnB.new w x
  have B1 := (Below.refl _ w).alloc (Nat.le_refl _) (.cells #[.int .i64 x.index, .int .i64 x.term, .string x.data] 60)
  clear hV ht hX hf hi hw hrs hW hL hE
  unfold enV
  go_enter Tryd.func51, Tryd.ntmps51
  go_upto_region 1 with fail
  generalize w.alloc (.cells #[.int .i64 x.index, .int .i64 x.term, .string x.data] 60) = w1 at N1 B1 ⊢
  obtain ⟨⟨p0, _⟩, _⟩ := HLC.out w1 B1
  obtain ⟨⟨e0, e1, e2⟩, _⟩ := N1.cells
  have B1d := B1.drew
  have N1d : EnB w1.drew w.heap.size x := N1
  have BA : Below w.heap.size w (w1.alloc (.cells #[.int .i64 0, .int .i64 0, .int .i64 0, .string ⟨#[]⟩] 72)).drew := (B1.alloc B1.size _).drew
  have NA : EnB (w1.alloc (.cells #[.int .i64 0, .int .i64 0, .int .i64 0, .string ⟨#[]⟩] 72)).drew w.heap.size x := N1.below (((Below.refl _ w1).alloc (Nat.le_refl _) _).drew)
  have ZA : RecB (w1.alloc (.cells #[.int .i64 0, .int .i64 0, .int .i64 0, .string ⟨#[]⟩] 72)).drew w1.heap.size rc0 := RecB.new w1 rc0
  have v1 : ¬ b = w1.heap.size := by have := N1.lt; omega
  have v2 : ¬ w1.heap.size = b := fun e => v1 e.symm
  have v3 : w.heap.size ≠ w1.heap.size := Nat.ne_of_lt N1.lt
  have v3b : ¬ w1.heap.size = w.heap.size := fun e => v3 e.symm
  go_cut [5, 6, 7] (fun p s e wx => ∃ g, p = .pointer (some ⟨g, 0, none⟩) ∧ s = .int .i64 st ∧ e = .int .i64 er ∧ RecB wx g r ∧ EnB wx w.heap.size x ∧ Below w.heap.size w wx)
  case first =>
    go_region_held3 (fun w' => w'.cell? ⟨b, 0, none⟩ = some (.pointer (some ⟨B, 0, none⟩)) ∧ w'.cell? ⟨w.heap.size, 0, none⟩ = some (.int .i64 x.index)) (first | (with_reducible exact ⟨q0, g0⟩) | (with_reducible exact ⟨q1, g1⟩) | (refine ⟨?_, ?_⟩ <;> with_reducible assumption) | (with_reducible assumption) | go_keep)
      (first
        | (go_at_call 43; refine (HBL.out _ ?hBa).mono ?_; (case hBa => first | (with_reducible exact BA) | (with_reducible exact B1d)); rintro e w2 ⟨rfl, hb2⟩; (first
            | (have Z2 : RecB w2 w1.heap.size rc0 := (by with_reducible exact ZA.below hb2); have N2 := NA.below hb2; have B2 := BA.trans (hb2.mono BA.size); have q0 := (HLC.out w2 B2).1.1; have g0 := N2.cells.1.1)
            | (have B2 : Below w.heap.size w w2 := (by with_reducible exact B1d.trans (hb2.mono B1d.size)); have N2 := N1d.below hb2; have q0 := (HLC.out w2 B2).1.1; have g0 := N2.cells.1.1; have v4 : ¬ b = w2.heap.size := (by have := N2.lt; omega); have v5 : ¬ w2.heap.size = b := (fun e => v4 e.symm); have v6 : w.heap.size ≠ w2.heap.size := Nat.ne_of_lt N2.lt; have v6b : ¬ w2.heap.size = w.heap.size := (fun e => v6 e.symm))))
        | (go_at_call 32; refine (HS.out _ ?hBb).mono ?_; (case hBb => first | (with_reducible exact B2) | (with_reducible exact (B2.alloc B2.size _))); rintro e w3 ⟨rfl, hb3⟩; (first
            | (have Z3 : RecB w3 w1.heap.size rc0 := (by with_reducible exact Z2.below hb3); have N3 := N2.below hb3; have B3 := B2.trans (hb3.mono B2.size); have q1 := (HLC.out w3 B3).1.1; have g1 := N3.cells.1.1; obtain ⟨⟨d0, d1, d2, d3⟩, k0, k1, k2, k3⟩ := Z3.cells)
            | (have Z3 : RecB w3 w2.heap.size rc0 := (by with_reducible exact (rec0_new w2).below hb3); have N3 := (N2.below ((Below.refl _ w2).alloc (Nat.le_refl _) (.cells #[.int .i64 0, .int .i64 0, .int .i64 0, .string ⟨#[]⟩] 72))).below hb3; have B3 := (B2.alloc B2.size (.cells #[.int .i64 0, .int .i64 0, .int .i64 0, .string ⟨#[]⟩] 72)).trans (hb3.mono (B2.alloc B2.size (.cells #[.int .i64 0, .int .i64 0, .int .i64 0, .string ⟨#[]⟩] 72)).size); have q1 := (HLC.out w3 B3).1.1; have g1 := N3.cells.1.1; obtain ⟨⟨d0, d1, d2, d3⟩, k0, k1, k2, k3⟩ := Z3.cells)
            | (have B3 : Below w.heap.size w w3 := (by with_reducible exact B2.trans (hb3.mono B2.size)); have N3 := N2.below hb3; have q1 := (HLC.out w3 B3).1.1; have g1 := N3.cells.1.1; have v7 : ¬ b = w3.heap.size := (by have := N3.lt; omega); have v8 : ¬ w3.heap.size = b := (fun e => v7 e.symm)))))
    all_goals (go_wp2_with fail; go_meet)
    all_goals first
      | (exact get_end1 r st er N3 B3)
      | (exact get_end r st er Z3 N3 B3 B2.size v6)
      | (exact get_end r st er Z3 N3 B3 B1.size v3)
  case rest =>
    obtain ⟨g, rfl, rfl, rfl, R4, N4, B4⟩ := hcut
    clear p0 e0 e1 e2 B1d N1d BA NA ZA v1 v2 v3 v3b N1 B1 HS HBL
    by_cases he : er = 0
    · subst he
      have HV2 : Hid (V = if (D.wr L rs).1 ≠ 0 then D.wr L rs else (D.wr L rs).2.wr L [mkR x]) := by show V = _; rw [HV.out, if_neg (by decide)]
      obtain ⟨⟨r0, r1, r2, r3⟩, _⟩ := R4.cells
      obtain ⟨⟨c0, c1, c2⟩, _⟩ := N4.cells
      obtain ⟨BQ, hBQ⟩ : ∃ BQ : Bool, BQ = true ↔ r = entR x := ⟨@decide (r = entR x) (Classical.propDecidable _), by simp⟩
      have HEQ := neq_rec r (entR x) BQ hBQ
      unfold recV entR at HEQ
      simp only at HEQ
      have HRE : Hid ((BQ = true → rs = []) ∧ (BQ = false → rs = [entR x])) := ⟨fun h => HRX.out.1 (hBQ.1 h), fun h => HRX.out.2 (fun e => by rw [hBQ.2 e] at h; cases h)⟩
      have R4d : RecB wc.drew g r := R4
      have N4d : EnB wc.drew w.heap.size x := N4
      have B4d : Below w.heap.size w wc.drew := B4.drew
      clear hBQ HRX R4 N4 B4 HV
      go_wp2_with fail
      go_region_held3 (fun w' => w'.cell? ⟨g, 0, none⟩ = some (.int .i64 r.kind) ∧ w'.cell? ⟨g, 1, none⟩ = some (.int .i64 r.index) ∧ w'.cell? ⟨g, 2, none⟩ = some (.int .i64 r.term) ∧ w'.cell? ⟨g, 3, none⟩ = some (.string r.data) ∧ w'.cell? ⟨w.heap.size, 0, none⟩ = some (.int .i64 x.index) ∧ w'.cell? ⟨w.heap.size, 1, none⟩ = some (.int .i64 x.term) ∧ w'.cell? ⟨w.heap.size, 2, none⟩ = some (.string x.data)) (first | (with_reducible assumption) | (refine ⟨?_, ?_, ?_, ?_, ?_, ?_, ?_⟩ <;> with_reducible assumption) | go_keep)
        ((go_at_call 73; refine (HRO.out _).mono ?_; rintro e w5 ⟨rfl, hb5⟩; have R5 := R4d.below hb5; have N5 := N4d.below hb5; have B5 := B4d.trans (hb5.mono B4d.size); obtain ⟨⟨s0, s1, s2, s3⟩, _⟩ := R5.cells; obtain ⟨⟨t0, t1, t2⟩, _⟩ := N5.cells))
      cases BQ with
      | true =>
        have HRZ : Hid (rs = []) := HRE.out.1 rfl
        have XV := HX0.out.growAll B5
        have SV : RecS (fun j => E j ∨ (w.heap.size ≤ j ∧ j < w5.heap.size)) w5 (.slice none 0 0) rs := by rw [HRZ.out]; exact RecS.nil _ w5
        have NV := N5
        have BV := B5
        clear HRE R5 N5 B5 s0 s1 s2 s3 t0 t1 t2 r0 r1 r2 r3 c0 c1 c2 HRZ
        have LV := HL0.out.below BV
        have HW1 := Lib.hid (pwrite_any _ rs XV LV (.inl HE.out) SV (Nat.le_trans hn BV.size) (fun y hy => HT.out y ((BV.mono hn).trans hy)) (by have := HWR.out; omega) HF.out HRI.out)
        have HWW := Lib.hid (wr_writes L rs D)
        have HV3 := HV2
        generalize D.wr L rs = Y at HW1 HWW HV3
        clear SV HV2
        go_wp2_with fail
        refine HW1.out.mono ?_
        rintro e w8 ⟨rfl, X8, hb8, hk8⟩
        have L8 := LV.keep hk8 (.inl HE.out)
        have N8 := NV.keep hk8 (.inr ⟨Nat.le_refl _, NV.lt⟩)
        have B8 : Below n w w8 := (BV.mono hn).trans hb8
        have K8 : Kept E w w8 := (Kept.of_below HX0.out.lt BV).trans (hk8.mono (fun j hj => .inl hj))
        clear hb8 hk8 LV NV BV XV HW1
        by_cases hy : Y.1 = 0
        · have ey : (Y.1 == 0) = true := by simpa using hy
          have HV4 : Hid (V = Y.2.wr L [mkR x]) := by show V = _; rw [HV3.out, if_neg (by rw [hy]; decide)]
          obtain ⟨⟨t0, t1, t2⟩, _⟩ := N8.cells
          clear hy HV3
          go_wp2_with fail
          refine (HMO.out _).mono ?_
          rintro e w9 ⟨rfl, hb9⟩
          have bM := (Below.refl w9.heap.size w9).alloc (Nat.le_refl _) (.cells #[.int .i64 3, .int .i64 x.index, .int .i64 x.term, .string ⟨#[]⟩] 72)
          have b9 := hb9.trans (bM.mono hb9.size)
          have X9 := (X8.below hb9).alloc (.cells #[.int .i64 3, .int .i64 x.index, .int .i64 x.term, .string ⟨#[]⟩] 72)
          have SM := RecS.wide (F := fun k => (E k ∨ (w.heap.size ≤ k ∧ k < w5.heap.size)) ∨ k = w9.heap.size) (RecS.one w9 (mkR x)) (fun j h => .inr h)
          have L9 := L8.below b9
          have B9 := B8.trans (b9.mono (Nat.le_trans hn B8.size))
          have K9 := K8.trans (Kept.of_below (fun j hj => X8.lt j (.inl hj)) b9)
          have HW2 := Lib.hid (pwrite_any _ [mkR x] X9 L9 (.inl (.inl HE.out)) SM (Nat.le_trans hn B9.size) (fun y hy => HT.out y (B9.trans hy)) (by have := HWR.out; have := HWW.out; have := HRL.out; omega) HF.out (fun r hr => by rw [List.mem_singleton.1 hr]; exact HIX.out))
          rw [← HV4.out] at HW2
          clear hb9 bM b9 X8 L8 N8 B8 K8 SM L9 X9 t0 t1 t2
          go_wp2_with fail
          refine HW2.out.mono ?_
          rintro e w10 ⟨rfl, X10, hb10, hk10⟩
          go_wp2_with fail
          go_ret
          exact ⟨rfl, X10.less (fun j hj => .inl (.inl hj)), B9.trans hb10, K9.trans (hk10.mono (fun j hj => .inl (.inl hj)))⟩
        · have ey : (Y.1 == 0) = false := by simpa using hy
          have HV4 : Hid (V = Y) := by show V = _; rw [HV3.out, if_pos hy]
          clear hy
          go_wp2_with fail
          go_ret
          exact ⟨by rw [HV4.out]; rfl, by rw [HV4.out]; exact X8.less (fun j hj => .inl hj), B8, K8⟩
      | false =>
        have HRZ : Hid (rs = [entR x]) := HRE.out.2 rfl
        go_wp2_with fail
        refine (HRO.out _).mono ?_
        rintro e w6 ⟨rfl, hb6⟩
        have B6 := B5.trans (hb6.mono B5.size)
        have N6 := N5.below hb6
        have bR := (Below.refl w6.heap.size w6).alloc (Nat.le_refl _) (.cells #[.int .i64 2, .int .i64 x.index, .int .i64 x.term, .string x.data] 72)
        have B7 := B6.trans (bR.mono B6.size)
        have hH := ent_new w6 x
        have hNb : w.heap.size ≤ (w6.alloc (.cells #[.int .i64 2, .int .i64 x.index, .int .i64 x.term, .string x.data] 72)).heap.size := B7.size
        clear HRE R5 N5 B5 s0 s1 s2 s3 t0 t1 t2 r0 r1 r2 r3 c0 c1 c2 hb6
        go_wp2_with (at_builtin; refine wpList_append_rec _ rfl _ _ rfl w.heap.size (.slice none 0 0) _ rfl (RowR.nil _ _) w6.heap.size (entR x) rfl hH (Nat.zero_le _) hNb ?_; intro g7 cap7 w7 ho7 hg7 hat7; go_frame)
        have BV := B7.grown hg7 hNb (fun j hj => by cases hj)
        have NV : EnB w7 w.heap.size x := (hg7.block _ (N6.below bR).lt (fun e => by cases e)).trans (N6.below bR)
        have XV := HX0.out.growAll BV
        have SV : RecS (fun j => E j ∨ (w.heap.size ≤ j ∧ j < w7.heap.size)) w7 (.slice (some ⟨g7, 0, none⟩) 1 cap7) rs := by
          rw [HRZ.out]
          exact (RowR.recs ho7 (by simp)).wide (fun j h => .inr h)
        clear N6 B6 B7 bR hH hNb ho7 hg7 hat7 HRZ
        have LV := HL0.out.below BV
        have HW1 := Lib.hid (pwrite_any _ rs XV LV (.inl HE.out) SV (Nat.le_trans hn BV.size) (fun y hy => HT.out y ((BV.mono hn).trans hy)) (by have := HWR.out; omega) HF.out HRI.out)
        have HWW := Lib.hid (wr_writes L rs D)
        have HV3 := HV2
        generalize D.wr L rs = Y at HW1 HWW HV3
        clear SV HV2
        go_wp2_with fail
        refine HW1.out.mono ?_
        rintro e w8 ⟨rfl, X8, hb8, hk8⟩
        have L8 := LV.keep hk8 (.inl HE.out)
        have N8 := NV.keep hk8 (.inr ⟨Nat.le_refl _, NV.lt⟩)
        have B8 : Below n w w8 := (BV.mono hn).trans hb8
        have K8 : Kept E w w8 := (Kept.of_below HX0.out.lt BV).trans (hk8.mono (fun j hj => .inl hj))
        clear hb8 hk8 LV NV BV XV HW1
        by_cases hy : Y.1 = 0
        · have ey : (Y.1 == 0) = true := by simpa using hy
          have HV4 : Hid (V = Y.2.wr L [mkR x]) := by show V = _; rw [HV3.out, if_neg (by rw [hy]; decide)]
          obtain ⟨⟨t0, t1, t2⟩, _⟩ := N8.cells
          clear hy HV3
          go_wp2_with fail
          refine (HMO.out _).mono ?_
          rintro e w9 ⟨rfl, hb9⟩
          have bM := (Below.refl w9.heap.size w9).alloc (Nat.le_refl _) (.cells #[.int .i64 3, .int .i64 x.index, .int .i64 x.term, .string ⟨#[]⟩] 72)
          have b9 := hb9.trans (bM.mono hb9.size)
          have X9 := (X8.below hb9).alloc (.cells #[.int .i64 3, .int .i64 x.index, .int .i64 x.term, .string ⟨#[]⟩] 72)
          have SM := RecS.wide (F := fun k => (E k ∨ (w.heap.size ≤ k ∧ k < w7.heap.size)) ∨ k = w9.heap.size) (RecS.one w9 (mkR x)) (fun j h => .inr h)
          have L9 := L8.below b9
          have B9 := B8.trans (b9.mono (Nat.le_trans hn B8.size))
          have K9 := K8.trans (Kept.of_below (fun j hj => X8.lt j (.inl hj)) b9)
          have HW2 := Lib.hid (pwrite_any _ [mkR x] X9 L9 (.inl (.inl HE.out)) SM (Nat.le_trans hn B9.size) (fun y hy => HT.out y (B9.trans hy)) (by have := HWR.out; have := HWW.out; have := HRL.out; omega) HF.out (fun r hr => by rw [List.mem_singleton.1 hr]; exact HIX.out))
          rw [← HV4.out] at HW2
          clear hb9 bM b9 X8 L8 N8 B8 K8 SM L9 X9 t0 t1 t2
          go_wp2_with fail
          refine HW2.out.mono ?_
          rintro e w10 ⟨rfl, X10, hb10, hk10⟩
          go_wp2_with fail
          go_ret
          exact ⟨rfl, X10.less (fun j hj => .inl (.inl hj)), B9.trans hb10, K9.trans (hk10.mono (fun j hj => .inl (.inl hj)))⟩
        · have ey : (Y.1 == 0) = false := by simpa using hy
          have HV4 : Hid (V = Y) := by show V = _; rw [HV3.out, if_pos hy]
          clear hy
          go_wp2_with fail
          go_ret
          exact ⟨by rw [HV4.out]; rfl, by rw [HV4.out]; exact X8.less (fun j hj => .inl hj), B8, K8⟩
    · have ee : (er == 0) = false := by simpa using he
      have HVE : Hid (V = (er, D)) := by show V = _; rw [HV.out, if_pos he]
      clear R4 N4
      go_wp2_with fail
      go_ret
      exact ⟨by rw [HVE.out]; rfl, by rw [HVE.out]; exact HX0.out.below B4, B4.mono hn, Kept.of_below HX0.out.lt B4⟩
end Go.Proofs.YtigebaaldikeaaaDoor
