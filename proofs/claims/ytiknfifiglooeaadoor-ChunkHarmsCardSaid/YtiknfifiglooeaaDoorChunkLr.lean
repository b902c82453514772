/- What stands in a copy's block. No conditions beyond those in each statement. -/
import Derived.Test.YtiknfifiglooeaaDoorChunkPure
namespace Go.Proofs.YtiknfifiglooeaaDoor
open Go Go.RowKit Go.Proofs.Tryd
set_option linter.unusedVariables false
set_option maxRecDepth 100000

/-- A slice of sums that can be read. -/
def SmR (w : World) (sv : Value) (ss : List Int) : Prop := ∃ a cap, sv = .slice a ss.length cap ∧ ss.length ≤ 1000000 ∧ (ss.length = 0 ∨ ∃ g, a = some ⟨g, 0, none⟩ ∧ g < w.heap.size ∧ ∀ j, j < ss.length → w.cell? ⟨g, j, none⟩ = some (.int .u32 (ss.getD j 0))) ∧ ∀ z ∈ ss, 0 ≤ z ∧ z ≤ 4294967295
theorem SmR.below {w x : World} {sv : Value} {ss : List Int} (h : SmR w sv ss) (hb : Below w.heap.size w x) : SmR x sv ss := by
  obtain ⟨a, cap, hv, hn, h, hz⟩ := h
  refine ⟨a, cap, hv, hn, h.imp id ?_, hz⟩
  rintro ⟨g, ha, hg, hc⟩
  exact ⟨g, ha, Nat.lt_of_lt_of_le hg hb.size, fun j hj => (hb.cell (p := ⟨g, j, none⟩) hg).trans (hc j hj)⟩
theorem SmR.of_row {w : World} {base : Nat} {sv : Value} {ss : List Int} (h : w.ownsRow base 70 1 sv ss.length (smCells ss)) (hl : ss.length ≤ 1000000) (hz : ∀ z ∈ ss, 0 ≤ z ∧ z ≤ 4294967295) : SmR w sv ss := by
  rcases h.2 with ⟨rfl, h0⟩ | ⟨g, cap, cur, rfl, _, hg, hn, _, hs, ht⟩
  · exact ⟨none, 0, by rw [h0], hl, .inl h0, hz⟩
  · refine ⟨_, cap, rfl, hl, .inr ⟨g, rfl, lt_of_block hg, fun j hj => ?_⟩, hz⟩
    have hu : (smCells ss)[j]? = some (.int .u32 (ss.getD j 0)) := by
      unfold smCells
      rw [List.getElem?_map, List.getElem?_eq_getElem hj, List.getD_eq_getElem?_getD, List.getElem?_eq_getElem hj]
      rfl
    rw [← ht, List.getElem?_take_of_lt (by omega)] at hu
    exact cell_of hg (by simpa using hu)
/-- A copy of a list. -/
def listR (l : Ls) : Rc := ⟨4, l.index, l.term, ⟨(numsE (l.bytes :: (l.sums.length : Int) :: l.sums)).toArray⟩⟩
theorem run_lsf0 (W : World) (b : Nat) : (Instr.fieldAt 67 (.pointer (some ⟨b, 0, none⟩)) 0).run Tryd.prog W = .ok (.pointer (some ⟨b, 0, none⟩)) W := by go_simp
theorem run_lsf1 (W : World) (b : Nat) : (Instr.fieldAt 67 (.pointer (some ⟨b, 0, none⟩)) 1).run Tryd.prog W = .ok (.pointer (some ⟨b, 1, none⟩)) W := by go_simp
theorem run_storeRec (W : World) (b : Nat) (r0 r : Rc) (h : RecB W b r0) : (Instr.storeAt 58 (.pointer (some ⟨b, 0, none⟩)) (recV r)).run Tryd.prog W = .ok () (setRec W b r) := by
  obtain ⟨⟨c0, c1, c2, c3⟩, f0, f1, f2, f3⟩ := h.cells
  unfold recV setRec
  go_simp
section
variable {Q : Exit → Act → World → Prop} {l : List Oper}
theorem gstep_str {i : Nat} {o : Oper} {a : Act} {w : World} {K : Act → World → Prop} (ho : l[i]? = some o) (hw : WantedIs l a o true) (s : Operand) (hop : o.op = .convert 100 9 s) {v : Value} {L : List UInt8} (he : a.eval s = v) (hs : Src w v L)
    (h : K (a.put o.dst (.string ⟨L.toArray⟩)) w) : Step Tryd.prog l Q i K a w :=
  gstep_value ho hw _ w (by
    have hrun := run_str hs
    simp only [execOp, hop, he, Sem.run_bind, hrun, Sem.run_pure, Result.andThen_ok]) h
theorem gstep_mkR {i : Nat} {o : Oper} {a : Act} {w : World} {K : Act → World → Prop} (ho : l[i]? = some o) (hw : WantedIs l a o true) (s0 s1 s2 s3 : Operand) (hop : o.op = .build 58 #[(0, s0), (1, s1), (2, s2), (3, s3)]) (k x y : Int) (d : ByteArray) (h0 : a.eval s0 = .int .i64 k) (h1 : a.eval s1 = .int .i64 x) (h2 : a.eval s2 = .int .i64 y) (h3 : a.eval s3 = .string d)
    (h : K (a.put o.dst (recV ⟨k, x, y, d⟩)) w) : Step Tryd.prog l Q i K a w :=
  gstep_value ho hw _ w (by unfold recV; simp only [execOp, hop, List.map_toArray, List.map_cons, List.map_nil, h0, h1, h2, h3]; go_simp) h
end
theorem cret115 (A : Act) (W : World) (b : Nat) (r : Rc) (Q : Ending → World → Prop) (h2 : A.tmps.getD 2 undef = .pointer (some ⟨b, 0, none⟩)) (hd : A.defers = []) (hr : RecB W b r)
    (hq : Q (.returned (recV r)) W) : bodyPost Tryd.prog Tryd.f115 Q Exit.ret A W := by
  obtain ⟨⟨c0, c1, c2, c3⟩, _⟩ := hr.cells
  have e2 : A.tmps[2]?.getD undef = .pointer (some ⟨b, 0, none⟩) := by simpa using h2
  exact bodyPost_ret (v := recV r) (by simp [results, Tryd.results115, go_sem, recV, e2, c0, c1, c2, c3]) hd hq
theorem und_ints : Tryd.prog.underlying 90 = some (.slice 3) := by kernel_rfl
theorem info_intL : (Tryd.prog.info? 3).map (fun i => (i.zero, i.size, i.bytes)) = some (some (.int .i64 0), 1, 8) := by kernel_rfl
def ntCells (l : List Int) : List Value := l.map (Value.int .i64)
def FLr (lb rb : Nat) (i t : Int) (nv : Value) (L : List UInt8) : Nat → Value → World → Prop
  | 0, v, _ => v = .pointer (some ⟨lb, 0, none⟩)
  | 1, v, _ => v = .int .i64 i
  | 2, v, _ => v = .pointer (some ⟨lb, 1, none⟩)
  | 3, v, _ => v = .int .i64 t
  | 4, v, _ => v = nv
  | 5, v, w => Src w v L
  | 6, v, _ => v = .string ⟨L.toArray⟩
  | 7, v, _ => v = recV ⟨4, i, t, ⟨L.toArray⟩⟩
  | _, _, _ => True
theorem FLr_keep {lb rb : Nat} {i t : Int} {nv : Value} {L : List UInt8} {v : Value} {w w' : World} (hb : Below w.heap.size w w') : ∀ k : Nat, FLr lb rb i t nv L k v w → FLr lb rb i t nv L k v w'
  | 0, h => h
  | 1, h => h
  | 2, h => h
  | 3, h => h
  | 4, h => h
  | 5, h => Src.below h hb
  | 6, h => h
  | 7, h => h
  | _ + 8, _ => trivial

/-- What a round of listRec's loop starts from. -/
def LrR (m : Nat) (w : World) (lb rb : Nat) (i t n : Int) (sv : Value) (ss : List Int) (k : Nat) (nv : Value) (wr : World) : Prop :=
  LsB wr lb i t n sv ∧ RecB wr rb rc0 ∧ wr.ownsRow m 3 1 nv (k + 2) (ntCells (n :: (ss.length : Int) :: ss.take k)) ∧ Below m w wr
theorem row_ints {w : World} {base : Nat} {v : Value} {zs : List Int} {n : Nat} (h : w.ownsRow base 3 1 v n (ntCells zs)) (hn : zs.length = n) (h0 : 0 < n) : ∃ g cap, v = .slice (some ⟨g, 0, none⟩) n cap ∧ g < w.heap.size ∧ ∀ j, j < n → w.cell? ⟨g, 0 + j, none⟩ = some (.int .i64 (zs.getD j 0)) := by
  rcases h.2 with ⟨_, h1⟩ | ⟨g, cap, cur, rfl, _, hg, hc, _, hs, ht⟩
  · omega
  · refine ⟨g, cap, rfl, lt_of_block hg, fun j hj => ?_⟩
    have hu : (ntCells zs)[j]? = some (.int .i64 (zs.getD j 0)) := by
      unfold ntCells
      rw [List.getElem?_map, List.getElem?_eq_getElem (by omega), List.getD_eq_getElem?_getD, List.getElem?_eq_getElem (by omega)]
      rfl
    rw [← ht, List.getElem?_take_of_lt (by omega)] at hu
    rw [Nat.zero_add]
    exact cell_of hg (by simpa using hu)
set_option maxHeartbeats 4000000 in
theorem clistr_any (l : Ls) (sv : Value) (w : World) (hs : SmR w sv l.sums) (hb : 0 ≤ l.bytes ∧ l.bytes ≤ 281474976710655) :
    Calls Tryd.prog 115 #[lsV l sv] w fun e w' => e = .returned (recV (listR l)) ∧ Below w.heap.size w w' := by
  obtain ⟨i, t, n, ss⟩ := l
  obtain ⟨a, cap, rfl, hl, hsc, hz⟩ := id hs
  simp only at hs hb hl hsc hz ⊢
  unfold lsV
  simp only
  have B1 := ((Below.refl w.heap.size w).alloc (Nat.le_refl _) (.cells #[.int .i64 i, .int .i64 t, .int .i64 n, .slice a ss.length cap] 67)).alloc (by simp) (.cells #[.int .i64 0, .int .i64 0, .int .i64 0, .string ⟨#[]⟩] 58)
  have L1 := (LsB.new w i t n (.slice a ss.length cap)).below ((Below.refl _ (w.alloc (.cells #[.int .i64 i, .int .i64 t, .int .i64 n, .slice a ss.length cap] 67))).alloc (Nat.le_refl _) (.cells #[.int .i64 0, .int .i64 0, .int .i64 0, .string ⟨#[]⟩] 58))
  have R1 : RecB ((w.alloc (.cells #[.int .i64 i, .int .i64 t, .int .i64 n, .slice a ss.length cap] 67)).alloc (.cells #[.int .i64 0, .int .i64 0, .int .i64 0, .string ⟨#[]⟩] 58)) (w.heap.size + 1) rc0 := by
    have := RecB.new (w.alloc (.cells #[.int .i64 i, .int .i64 t, .int .i64 n, .slice a ss.length cap] 67)) rc0
    rw [World.size_alloc] at this
    exact this
  have HS := Lib.hid (fun (x : World) (hb : Below w.heap.size w x) => (hs.below hb))
  have hl2 : ss.length ≤ 9223372036854775807 := by omega
  have HZ := Lib.hid hz
  clear hs hsc hz
  go_enter Tryd.func115, Tryd.ntmps115
  go_upto_region 1 with fail
  generalize (w.alloc (.cells #[.int .i64 i, .int .i64 t, .int .i64 n, .slice a ss.length cap] 67)).alloc (.cells #[.int .i64 0, .int .i64 0, .int .i64 0, .string ⟨#[]⟩] 58) = w1 at L1 R1 B1 ⊢
  obtain ⟨⟨l0, l1, l2, l3⟩, _⟩ := L1.cells
  have hs1 := B1.size
  have RR : LrR w.heap.size w w.heap.size (w.heap.size + 1) i t n (.slice a ss.length cap) ss 0 (.slice (some ⟨w1.heap.size, 0, none⟩) 2 2) (w1.alloc (.cells #[.int .i64 n, .int .i64 (ss.length : Int)] 3)) := by
    have b := (Below.refl w1.heap.size w1).alloc (Nat.le_refl _) (.cells #[.int .i64 n, .int .i64 (ss.length : Int)] 3)
    refine ⟨L1.below b, R1.below b, ⟨rfl, .inr ⟨w1.heap.size, 2, _, rfl, hs1, heap_alloc_new w1 _, Nat.le_refl _, by unfold maxLen; omega, rfl, rfl⟩⟩, B1.trans (b.mono hs1)⟩
  clear R1 B1
  go_upto_region 2 with fail
  generalize w1.alloc (.cells #[.int .i64 n, .int .i64 (ss.length : Int)] 3) = w2 at RR ⊢
  have l3' := RR.1.cells.1.2.2.2
  clear l0 l1 l2 l3 L1
  go_wp2_with fail
  generalize Value.slice (some ⟨w1.heap.size, 0, none⟩) 2 2 = nv0 at RR ⊢
  go_loopw [3, 15] (fun nv z wr => ∃ k : Nat, k ≤ ss.length ∧ z = .int .i64 (k : Int) ∧ LrR w.heap.size w w.heap.size (w.heap.size + 1) i t n (.slice a ss.length cap) ss k nv wr) (fun _ z _ => ss.length - (intOf z).toNat)
  case atStart => exact ⟨0, Nat.zero_le _, rfl, RR⟩
  case round =>
    obtain ⟨k, hk, rfl, Lk, Rk, Nk, Bk⟩ := hrel
    clear RR l3'
    by_cases hlt : k < ss.length
    · have hlt' : (k : Int) < (ss.length : Int) := by omega
      have hk0 : (0 : Int) ≤ (k : Int) := by omega
      obtain ⟨a', cap', hv, _, hsc, _⟩ := HS.out wr Bk
      have hac : a = a' := by injection hv
      subst hac
      obtain ⟨g, rfl, hgl, hcell⟩ := hsc.resolve_left (by omega)
      have hc := hcell k hlt
      obtain ⟨z, hz⟩ : ∃ z, z = ss.getD k 0 := ⟨_, rfl⟩
      rw [← hz] at hc
      have hzb : 0 ≤ z ∧ z ≤ 4294967295 := by
        rw [hz, List.getD_eq_getElem?_getD, List.getElem?_eq_getElem hlt]
        exact HZ.out _ (List.getElem_mem hlt)
      have ez : IntKind.i64.wrap z = z := IntWalk.i64_in _ (by omega)
      obtain ⟨i0, hi, hz0, hz1, hz2⟩ := info_parts info_intL
      have HZK : Hid (ntCells (n :: (ss.length : Int) :: ss.take k) ++ [.int .i64 z] = ntCells (n :: (ss.length : Int) :: ss.take (k + 1))) := by
        show _ = _
        have h2 : ss[k]? = some z := by rw [hz, List.getD_eq_getElem?_getD, List.getElem?_eq_getElem hlt]; rfl
        rw [List.take_add_one, h2]
        simp [ntCells]
      have HL := Lib.hid Lk
      have HR := Lib.hid Rk
      have HB := Lib.hid Bk
      have HN := Lib.hid Nk
      clear Lk Rk Bk hcell hsc hv hz
      go_wp2_with (at_builtin; refine wpList_append_own _ rfl _ _ 90 rfl w.heap.size 3 i0 (.int .i64 0) 1 8 und_ints hi hz0 hz1 hz2 rfl (by decide) _ _ _ rfl (Nk.alloc _) ⟨wr.heap.size, 0, none⟩ 1 1 [.int .i64 z] rfl rfl (cell_one_new _ _ _) (by simp [Value.oneCell']) (by unfold maxLen; omega) (by omega) (by have := HB.out.size; simp; omega) ?_; intro v' w3 hown' hgrow _; go_frame)
      go_roundw
      case rel =>
        have hne1 : some w.heap.size ≠ u3.ownBlock := fun e => by
          obtain ⟨c1, h1⟩ := ownsRow_block Nk e.symm
          have hL := HL.out
          unfold LsB at hL
          rw [h1] at hL
          simp at hL
        have hne2 : some (w.heap.size + 1) ≠ u3.ownBlock := fun e => by
          obtain ⟨c1, h1⟩ := ownsRow_block Nk e.symm
          have hR := HR.out
          unfold RecB at hR
          rw [h1] at hR
          simp at hR
        have hbA := (Below.refl wr.heap.size wr).alloc (Nat.le_refl _) (.cells #[.int .i64 z] 3)
        refine ⟨k + 1, by omega, by go_num, ?_, ?_, ?_, ?_⟩
        · exact (hgrow.block _ (Nat.lt_of_lt_of_le HL.out.lt hbA.size) hne1).trans (HL.out.below hbA)
        · exact (hgrow.block _ (Nat.lt_of_lt_of_le HR.out.lt hbA.size) hne2).trans (HR.out.below hbA)
        · rw [← HZK.out]; exact hown'
        · exact (HB.out.trans (hbA.mono HB.out.size)).grown hgrow (Nat.le_trans HB.out.size hbA.size) (fun j hj => (World.ownsRow.lt Nk j hj).1)
      case measure => simp [intOf]; omega
    · obtain rfl : k = ss.length := by omega
      have hnl : ¬ ((ss.length : Nat) : Int) < (ss.length : Int) := by omega
      rw [List.take_length] at Nk
      obtain ⟨g, ncap, rfl, hgl, hcell⟩ := row_ints Nk (by simp) (by omega)
      obtain ⟨L, hL⟩ : ∃ L, L = numsE (n :: (ss.length : Int) :: ss) := ⟨_, rfl⟩
      have HL0 := Lib.hid (fun (W : World) (h : Below wr.drew.heap.size wr.drew W) => show W.cell? ⟨w.heap.size, 0, none⟩ = some (.int .i64 i) from (LsB.below (w := wr.drew) Lk h).cells.1.1)
      have HL1 := Lib.hid (fun (W : World) (h : Below wr.drew.heap.size wr.drew W) => show W.cell? ⟨w.heap.size, 1, none⟩ = some (.int .i64 t) from (LsB.below (w := wr.drew) Lk h).cells.1.2.1)
      have HRB := Lib.hid (fun (W : World) (h : Below wr.drew.heap.size wr.drew W) => show RecB W (w.heap.size + 1) rc0 from RecB.below (w := wr.drew) Rk h)
      have HBW := Lib.hid (fun (W : World) (h : Below wr.drew.heap.size wr.drew W) => show Below w.heap.size w W from Bk.trans (((Below.refl _ wr).drew).trans (h.mono Bk.size)))
      have HNM := Lib.hid (fun (W : World) (h : Below wr.drew.heap.size wr.drew W) => show Calls Tryd.prog 47 #[.slice none 0 0, .slice (some ⟨g, 0, none⟩) (ss.length + 2) ncap] W fun e w' => ∃ v', e = .returned v' ∧ Src w' v' L ∧ Below W.heap.size W w' from by
        have hlen : (n :: (ss.length : Int) :: ss).length = ss.length + 2 := rfl
        have hh := num_list (.slice none 0 0) [] g 0 ncap (n :: (ss.length : Int) :: ss) W (Src.nil W) (Nat.lt_of_lt_of_le hgl h.size) (by simp; omega)
          (fun j hj => by
            rcases j with _ | _ | j
            · simp; omega
            · simp; omega
            · have hj' : j < ss.length := by simp at hj; omega
              have := HZ.out (ss.getD j 0) (by rw [List.getD_eq_getElem?_getD, List.getElem?_eq_getElem hj']; exact List.getElem_mem hj')
              simp only [List.getD_cons_succ]
              omega)
          (fun j hj => (h.cell (p := ⟨g, 0 + j, none⟩) hgl).trans (hcell j (by simpa using hj)))
        rw [hlen] at hh
        refine hh.mono ?_
        rintro e w' ⟨v', rfl, ho, hb⟩
        exact ⟨v', rfl, by rw [hL]; simpa using ho.src, hb⟩)
      have HLL := Lib.hid hL
      clear Lk Rk Nk Bk hcell hL hlt
      go_upto_region 7 with fail
      refine wp_region_steps_tail 8 0 (FLr w.heap.size (w.heap.size + 1) i t (.slice (some ⟨g, 0, none⟩) (ss.length + 2) ncap) L) (fun w w' => Below w.heap.size w w') (by kernel_rfl) (by kernel_rfl) (by kernel_rfl) (by kernel_rfl) (by kernel_rfl) (by kernel_rfl) (Below.refl _ _) ?_ (fun u v w h1 h2 => h1.trans (h2.mono h1.size)) ?_ ?_
      · intro i v w w' _ h1 h2
        exact FLr_keep h2 i h1
      · intro i o hi ho x w1 hR hF hX
        match i, ho with
        | 0, ho =>
          obtain rfl := Option.some.inj ho
          exact gstep_field rfl (wanted0 rfl) _ _ _ rfl _ (eval_of 1 _ (by kernel_rfl) rfl) _ (run_lsf0 w1 _) ⟨_, rfl, rfl, Below.refl _ _⟩
        | 1, ho =>
          obtain rfl := Option.some.inj ho
          exact gstep_load rfl (wanted0 rfl) _ _ rfl _ (eval_at 25 0 _ (by kernel_rfl) (show 25 < 33 by decide) (hF 0 (by kernel_rfl))) _ (run_loadI w1 _ _ (HL0.out w1 hR)) ⟨_, rfl, rfl, Below.refl _ _⟩
        | 2, ho =>
          obtain rfl := Option.some.inj ho
          exact gstep_field rfl (wanted0 rfl) _ _ _ rfl _ (eval_of 1 _ (by kernel_rfl) rfl) _ (run_lsf1 w1 _) ⟨_, rfl, rfl, Below.refl _ _⟩
        | 3, ho =>
          obtain rfl := Option.some.inj ho
          exact gstep_load rfl (wanted0 rfl) _ _ rfl _ (eval_at 27 2 _ (by kernel_rfl) (show 27 < 33 by decide) (hF 2 (by kernel_rfl))) _ (run_loadI w1 _ _ (HL1.out w1 hR)) ⟨_, rfl, rfl, Below.refl _ _⟩
        | 4, ho =>
          obtain rfl := Option.some.inj ho
          exact gstep_move rfl (wanted0 rfl) _ rfl _ (eval_of 3 _ (by kernel_rfl) rfl) ⟨_, rfl, rfl, Below.refl _ _⟩
        | 5, ho =>
          obtain rfl := Option.some.inj ho
          refine gstep_call2 rfl (wanted0 rfl) _ _ _ _ rfl _ _ rfl (eval_at 29 4 _ (by kernel_rfl) (show 29 < 33 by decide) (hF 4 (by kernel_rfl))) (call_num w1 _ _) ?_
          refine (HNM.out w1 hR).mono ?_
          rintro e w2 ⟨v', rfl, hs, hb⟩
          exact ⟨_, rfl, _, rfl, hs, hb⟩
        | 6, ho =>
          obtain rfl := Option.some.inj ho
          exact gstep_str rfl (wanted0 rfl) _ rfl (eval_at 30 5 _ (by kernel_rfl) (show 30 < 33 by decide) rfl) (hF 5 (by kernel_rfl)) ⟨_, rfl, rfl, Below.refl _ _⟩
        | 7, ho =>
          obtain rfl := Option.some.inj ho
          exact gstep_mkR rfl (wanted0 rfl) _ _ _ _ rfl 4 _ _ _ rfl (eval_at 26 1 _ (by kernel_rfl) (show 26 < 33 by decide) (hF 1 (by kernel_rfl))) (eval_at 28 3 _ (by kernel_rfl) (show 28 < 33 by decide) (hF 3 (by kernel_rfl))) (eval_at 31 6 _ (by kernel_rfl) (show 31 < 33 by decide) (hF 6 (by kernel_rfl))) ⟨_, rfl, rfl, Below.refl _ _⟩
        | n + 8, ho => exact absurd hi (by omega)
      · intro x' w5 hR hF
        have h7 : x' 7 = recV ⟨4, i, t, ⟨L.toArray⟩⟩ := hF 7 (by decide)
        refine gstep_store rfl (wanted0 rfl) _ _ _ rfl _ _ (eval_of 2 _ (by kernel_rfl) rfl) (eval_at 32 7 _ (by kernel_rfl) (show 32 < 33 by decide) h7) _ (run_storeRec w5 _ rc0 _ (HRB.out w5 hR)) ?_
        unfold tailK
        simp only [putAll, Act.put, List.setIfInBounds_toArray, List.set_cons_succ, List.set_cons_zero]
        have RF := (HRB.out w5 hR).set ⟨4, i, t, ⟨L.toArray⟩⟩
        have BF := below_rec (HBW.out w5 hR) (show w.heap.size ≤ w.heap.size + 1 by omega) ⟨4, i, t, ⟨L.toArray⟩⟩
        have hrr : listR ⟨i, t, n, ss⟩ = ⟨4, i, t, ⟨L.toArray⟩⟩ := by unfold listR; rw [HLL.out]
        have HRR := Lib.hid hrr
        generalize setRec w5 (w.heap.size + 1) ⟨4, i, t, ⟨L.toArray⟩⟩ = w6 at RF BF ⊢
        clear hR hF h7 HL0 HL1 HRB HBW HNM hrr
        go_wp2_with fail
        exact cret115 _ w6 _ ⟨4, i, t, ⟨L.toArray⟩⟩ _ rfl rfl RF ⟨by rw [HRR.out], BF⟩
end Go.Proofs.YtiknfifiglooeaaDoor
