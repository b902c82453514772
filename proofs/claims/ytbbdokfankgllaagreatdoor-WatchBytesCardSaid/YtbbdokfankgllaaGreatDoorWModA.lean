/- The law's model of a book in memory; its Let. No conditions beyond those in each statement. The law's closures and before. No conditions beyond those in each statement. The model's Drop. No conditions beyond those in each statement. The closure of the law's Do. No conditions beyond those in each statement. -/
import Derived.Test.YtbbdokfankgllaaGreatDoorWLt
import Derived.Deep.DeepCutAuto
namespace Go.Proofs.YtbbdokfankgllaaGreatDoor
section
open Go.RowKit Go.Maps
set_option linter.unusedVariables false
set_option linter.unusedSimpArgs false
set_option maxRecDepth 100000

structure MoW (w : World) (base bb : Nat) (vw ve vm : Value) (Ws : List Wa) (Es : List Ev) (k c : Nat) (N : Int → Option Int) : Prop where
  box : w.heap[bb]? = some (.cells #[vw, ve, vm] 32 (0, 0))
  ws : WRow w base vw Ws
  es : ERow w base ve Es
  last : (vm = .map none ∧ N = (fun _ => none) ∧ c = 0) ∨ ∃ mb, vm = .map (some mb) ∧ MapN w mb k c N ∧ base ≤ mb
  lo : base ≤ bb ∧ base ≤ w.heap.size
section
variable {w w' : World} {base bb : Nat} {vw ve vm : Value} {Ws : List Wa} {Es : List Ev} {k c : Nat} {N : Int → Option Int}
theorem MoW.lt (h : MoW w base bb vw ve vm Ws Es k c N) : bb < w.heap.size := (Array.getElem?_eq_some_iff.1 h.box).1
theorem MoW.below (h : MoW w base bb vw ve vm Ws Es k c N) (hb : Below w.heap.size w w') : MoW w' base bb vw ve vm Ws Es k c N := by
  refine ⟨(hb.block bb h.lt).trans h.box, h.ws.below hb, h.es.below hb, h.last.imp id ?_, h.lo.1, Nat.le_trans h.lo.2 hb.size⟩
  rintro ⟨mb, h1, h2, h3⟩
  exact ⟨mb, h1, h2.below hb, h3⟩
theorem MoW.c0 (h : MoW w base bb vw ve vm Ws Es k c N) : w.cell? ⟨bb, 0, none⟩ = some vw := by simp [World.cell?, h.box]
theorem MoW.c1 (h : MoW w base bb vw ve vm Ws Es k c N) : w.cell? ⟨bb, 1, none⟩ = some ve := by simp [World.cell?, h.box]
theorem MoW.c2 (h : MoW w base bb vw ve vm Ws Es k c N) : w.cell? ⟨bb, 2, none⟩ = some vm := by simp [World.cell?, h.box]
theorem MoW.frz (h : MoW w base bb vw ve vm Ws Es k c N) (i : Nat) : w.frozen? ⟨bb, i, none⟩ = false := by simp [World.frozen?, h.box]

theorem MoW.ne_w (h : MoW w base bb vw ve vm Ws Es k c N) {g : Nat} (hg : vw.ownBlock = some g) : g ≠ bb := by
  obtain ⟨cur, h1, _⟩ := row_own h.ws hg
  exact cells_ne h1 h.box (by decide)
theorem MoW.turn (h : MoW w base bb vw ve vm Ws Es k c N) {v' : Value} {L' : List Wa} (hg : w.grownBy w' vw.ownBlock) (hr : WRow w' base v' L') : MoW (w'.setCell ⟨bb, 0, none⟩ v') base bb v' ve vm L' Es k c N := by
  have hbox : w'.heap[bb]? = some (.cells #[vw, ve, vm] 32 (0, 0)) := (hg.block bb h.lt (fun e => h.ne_w e.symm rfl)).trans h.box
  have hg2 := set_grown w' bb 0 v'
  refine ⟨?_, ?_, ?_, ?_, h.lo.1, Nat.le_trans h.lo.2 (Nat.le_trans hg.size hg2.size)⟩
  · have := bset (i := 0) (u := v') hbox
    simpa using this
  · refine hr.kept hg2 (fun g e e2 => ?_)
    obtain ⟨cur, h1, _⟩ := row_own hr e
    exact cells_ne h1 hbox (by decide) (Option.some.inj e2).symm
  · have e1 : ERow w' base ve Es := h.es.kept hg (fun g e e2 => by
      obtain ⟨c1, h1, _⟩ := row_own h.es e
      obtain ⟨c2, h2, _⟩ := row_own h.ws e2
      exact cells_ne h1 h2 (by decide) rfl)
    refine e1.kept hg2 (fun g e e2 => ?_)
    obtain ⟨c1, h1, _⟩ := row_own e1 e
    exact cells_ne h1 hbox (by decide) (Option.some.inj e2).symm
  · rcases h.last with h1 | ⟨mb, h1, h2, h3⟩
    · exact .inl h1
    · refine .inr ⟨mb, h1, (h2.keep0 (hg.block mb h2.lt (fun e => ?_))).keep0 (Below.heap_setCell w' ⟨bb, 0, none⟩ v' mb (fun e => ?_)), h3⟩
      · obtain ⟨c1, q1, _⟩ := row_own h.ws e.symm
        exact map_ne q1 h2 rfl
      · exact map_ne h.box h2 e.symm

theorem MoW.ne_e (h : MoW w base bb vw ve vm Ws Es k c N) {g : Nat} (hg : ve.ownBlock = some g) : g ≠ bb := by
  obtain ⟨cur, h1, _⟩ := row_own h.es hg
  exact cells_ne h1 h.box (by decide)
theorem MoW.turnE (h : MoW w base bb vw ve vm Ws Es k c N) {v' : Value} {L' : List Ev} (hg : w.grownBy w' ve.ownBlock) (hr : ERow w' base v' L') : MoW (w'.setCell ⟨bb, 1, none⟩ v') base bb vw v' vm Ws L' k c N := by
  have hbox : w'.heap[bb]? = some (.cells #[vw, ve, vm] 32 (0, 0)) := (hg.block bb h.lt (fun e => h.ne_e e.symm rfl)).trans h.box
  have hg2 := set_grown w' bb 1 v'
  refine ⟨?_, ?_, ?_, ?_, h.lo.1, Nat.le_trans h.lo.2 (Nat.le_trans hg.size hg2.size)⟩
  · have := bset (i := 1) (u := v') hbox
    simpa using this
  · have e1 : WRow w' base vw Ws := h.ws.kept hg (fun g e e2 => by
      obtain ⟨c1, h1, _⟩ := row_own h.ws e
      obtain ⟨c2, h2, _⟩ := row_own h.es e2
      exact cells_ne h1 h2 (by decide) rfl)
    refine e1.kept hg2 (fun g e e2 => ?_)
    obtain ⟨c1, h1, _⟩ := row_own e1 e
    exact cells_ne h1 hbox (by decide) (Option.some.inj e2).symm
  · refine hr.kept hg2 (fun g e e2 => ?_)
    obtain ⟨cur, h1, _⟩ := row_own hr e
    exact cells_ne h1 hbox (by decide) (Option.some.inj e2).symm
  · rcases h.last with h1 | ⟨mb, h1, h2, h3⟩
    · exact .inl h1
    · refine .inr ⟨mb, h1, (h2.keep0 (hg.block mb h2.lt (fun e => ?_))).keep0 (Below.heap_setCell w' ⟨bb, 1, none⟩ v' mb (fun e => ?_)), h3⟩
      · obtain ⟨c1, q1, _⟩ := row_own h.es e.symm
        exact map_ne q1 h2 rfl
      · exact map_ne h.box h2 e.symm

theorem MoW.turnM {mb k' c' : Nat} {N' : Int → Option Int} (h : MoW w base bb vw ve (.map (some mb)) Ws Es k c N) (hg : w.grownBy w' (some mb)) (hm : MapN w' mb k' c' N') : MoW w' base bb vw ve (.map (some mb)) Ws Es k' c' N' := by
  rcases h.last with ⟨h1, _⟩ | ⟨mb', h1, h2, h3⟩
  · cases h1
  · injection h1 with h1
    injection h1 with h1
    subst h1
    refine ⟨(hg.block bb h.lt (fun e => map_ne h.box h2 (Option.some.inj e))).trans h.box, ?_, ?_, .inr ⟨mb, rfl, hm, h3⟩, h.lo.1, Nat.le_trans h.lo.2 hg.size⟩
    · exact h.ws.kept hg (fun g e e2 => by
        obtain ⟨c1, q1, _⟩ := row_own h.ws e
        exact map_ne q1 h2 (Option.some.inj e2).symm)
    · exact h.es.kept hg (fun g e e2 => by
        obtain ⟨c1, q1, _⟩ := row_own h.es e
        exact map_ne q1 h2 (Option.some.inj e2).symm)
theorem MoW.mono {k' : Nat} (h : MoW w base bb vw ve vm Ws Es k c N) (hk : k ≤ k') : MoW w base bb vw ve vm Ws Es k' c N :=
  ⟨h.box, h.ws, h.es, h.last.imp id (fun ⟨mb, h1, h2, h3⟩ => ⟨mb, h1, h2.mono hk, h3⟩), h.lo⟩
theorem MoW.madeM (h : MoW w base bb vw ve (.map none) Ws Es k c N) : MoW ((w.setCell ⟨bb, 2, none⟩ (.map (some w.heap.size))).alloc (.map #[] 0)) base bb vw ve (.map (some w.heap.size)) Ws Es 0 0 (fun _ => none) ∧ Below base w ((w.setCell ⟨bb, 2, none⟩ (.map (some w.heap.size))).alloc (.map #[] 0)) ∧ MapN ((w.setCell ⟨bb, 2, none⟩ (.map (some w.heap.size))).alloc (.map #[] 0)) w.heap.size 0 0 (fun _ => none) := by
  have hg := set_grown w bb 2 (.map (some w.heap.size))
  have hbox := bset (i := 2) (u := .map (some w.heap.size)) h.box
  have hsz : (w.setCell ⟨bb, 2, none⟩ (.map (some w.heap.size))).heap.size = w.heap.size := by simp
  have q0 : Below base w (w.setCell ⟨bb, 2, none⟩ (.map (some w.heap.size))) := (Below.refl base w).setCell (p := ⟨bb, 2, none⟩) h.lo.1 _
  have hw := h.ws.kept hg (fun g e e2 => by
      obtain ⟨c1, q1, _⟩ := row_own h.ws e
      exact cells_ne q1 h.box (by decide) (Option.some.inj e2).symm)
  have he := h.es.kept hg (fun g e e2 => by
      obtain ⟨c1, q1, _⟩ := row_own h.es e
      exact cells_ne q1 h.box (by decide) (Option.some.inj e2).symm)
  have hm := MapN.new (w.setCell ⟨bb, 2, none⟩ (.map (some w.heap.size)))
  have hlo := h.lo
  have hbl := h.lt
  generalize w.setCell ⟨bb, 2, none⟩ (.map (some w.heap.size)) = W0 at *
  rw [hsz] at hm
  have b1 := (Below.refl W0.heap.size W0).alloc (Nat.le_refl _) (.map #[] 0)
  have hbox1 := (b1.block bb (by omega)).trans hbox
  refine ⟨⟨by simpa using hbox1, hw.below b1, he.below b1, .inr ⟨w.heap.size, rfl, hm, hlo.2⟩, hlo.1, Nat.le_trans hlo.2 (by have := b1.size; omega)⟩, q0.trans (b1.mono (by omega)), hm⟩

end
theorem FrM.setE {w w' : World} {mb : Nat} {vw ve vm v' : Value} (h : Below w.heap.size w w') (hv : ∀ b, v'.ownBlock = some b → w.heap.size ≤ b) : FrM w (w'.setCell ⟨mb, 1, none⟩ v') mb vw ve vm vw v' vm := by
  have hs := set_grown w' mb 1 v'
  refine ⟨hs.os.trans h.os, hs.tape.trans h.tape, hs.output.trans h.output, Nat.le_trans h.size hs.size, fun b hb hn => ?_, fun b hb => ?_⟩
  · exact (hs.block b (Nat.lt_of_lt_of_le hb h.size) (fun e => hn (.inl (Option.some.inj e)))).trans (h.block b hb)
  · rcases hb with e | e | e | e
    · exact .inl (.inl e)
    · exact .inl (.inr (.inl e))
    · exact .inr (hv b e)
    · exact .inl (.inr (.inr (.inr e)))
theorem filt_snoc {p : Ev → Bool} {L : List Ev} {j : Nat} {x : Ev} (h : L[j]? = some x) : (L.take (j + 1)).filter p = (L.take j).filter p ++ (if p x then [x] else []) := by
  obtain ⟨h1, h2⟩ := List.getElem?_eq_some_iff.1 h
  rw [List.take_succ_eq_append_getElem h1, List.filter_append, h2]
  cases hp : p x <;> simp [hp]
set_option maxHeartbeats 8000000 in
theorem mlet_any (fn : Nat) (cb : Array Value) (eg : ∀ args w, (callFunc fn args).run Tryz.prog w = .ok (.enter fn args) w) (p : Ev → Bool) (base mb : Nat) (vw ve vm : Value) (Ws : List Wa) (Es : List Ev) (k c : Nat) (N : Int → Option Int) (w : World) (h : MoW w base mb vw ve vm Ws Es k c N) (hl : Es.length ≤ 100000)
    (hp : ∀ W x, Below w.heap.size w W → Calls Tryz.prog fn (#[evV x] ++ cb) W fun e W' => e = .returned (.bool (p x)) ∧ Below W.heap.size W W') :
    Calls Tryz.prog 23 #[.pointer (some ⟨mb, 0, none⟩), .func (.func fn) #[] cb] w fun e w' => e = .returned (.tuple #[]) ∧ ∃ ve', MoW w' base mb vw ve' vm Ws (Es.filter fun x => !p x) k c N ∧ FrM w w' mb vw ve vm vw ve' vm := by
  obtain ⟨i1, hi1, hz1, hz2, hz3⟩ := info_parts info_ev
  obtain ⟨ea, ec, rfl, hea, _⟩ := evV_form h.es
  have HEA := Lib.hid hea
  have HH := Lib.hid h
  have HP := Lib.hid hp
  have hbb := h.lt
  have x1 := h.c1
  have bA := (Below.refl w.heap.size w).alloc (Nat.le_refl _) (.cells #[] 54)
  have RW : ERow (w.alloc (.cells #[] 54)) w.heap.size (.slice (some ⟨w.heap.size, 0, none⟩) 0 0) [] := World.ownsRow_made w #[] 0 (Nat.le_refl _) (Nat.zero_le _) rfl
  have x2 := (HH.out.below bA).c1
  have HBA := Lib.hid bA
  have HRW := Lib.hid RW
  clear h hp hea bA RW
  go_enter Tryz.func23, Tryz.ntmps23
  go_wp2_with fail
  go_loopw [4, 13] (fun lv iv wr => ∃ (j : Nat) (M : List Ev), j ≤ Es.length ∧ iv = .int .i64 j ∧ M.length ≤ j ∧ M = (Es.take j).filter (fun x => !p x) ∧ (∃ a cc, lv = .slice a M.length cc) ∧ Hid (ERow wr w.heap.size lv M) ∧ Hid (Below w.heap.size w wr)) (fun _ iv _ => Es.length - (intOf iv).toNat)
  case atStart => exact ⟨0, [], by omega, rfl, by simp, by simp, ⟨_, _, rfl⟩, HRW, HBA⟩
  case round =>
    obtain ⟨j, M, hj, rfl, hML, hM, ⟨la, lc, rfl⟩, HM, HB⟩ := hrel
    clear HRW HBA x1 x2
    by_cases hlt : j < Es.length
    · have hlt2 : decide ((j : Int) < (Es.length : Int)) = true := by simp; omega
      obtain ⟨x, hx⟩ : ∃ x, Es[j]? = some x := ⟨Es[j], by simp [hlt]⟩
      obtain ⟨g, rfl, hgw, _⟩ := HEA.out (by omega)
      have hrw := (HH.out.below HB.out).es
      have y0 := evC0 hrw hx rfl
      have y1 := evC1 hrw hx rfl
      have y2 := evC2 hrw hx rfl
      have y3 := evC3 hrw hx rfl
      have y4 := evC4 hrw hx rfl
      have hj0 : (0 : Int) ≤ (j : Int) := by omega
      have hji : (j : Int) < (Es.length : Int) := by omega
      have t2 : IntKind.i64.wrap ((j : Int) + 1) = (j : Int) + 1 := IntWalk.i64_in _ (by omega)
      have HSN := Lib.hid (filt_snoc (p := fun x => !p x) hx)
      have HMM := Lib.hid hM
      clear hrw hx hM
      go_upto_region 4 with fail
      have NA : EvB (wr.alloc (.cells #[.int .i64 x.ses, .int .i64 x.no, .string x.path, .int .i64 x.what, .int .i64 x.when] 54)) wr.heap.size x := heap_alloc_new wr _
      have bA := (Below.refl wr.heap.size wr).alloc (Nat.le_refl _) (.cells #[.int .i64 x.ses, .int .i64 x.no, .string x.path, .int .i64 x.what, .int .i64 x.when] 54)
      obtain ⟨w5, hw5⟩ : ∃ w5, w5 = wr.alloc (.cells #[.int .i64 x.ses, .int .i64 x.no, .string x.path, .int .i64 x.what, .int .i64 x.when] 54) := ⟨_, rfl⟩
      obtain ⟨xb, hxb⟩ : ∃ xb, xb = wr.heap.size := ⟨_, rfl⟩
      rw [← hw5] at NA bA ⊢
      rw [← hxb] at NA ⊢
      have HM5 := Lib.hid (HM.out.below bA)
      have HB5 := Lib.hid (HB.out.trans (bA.mono HB.out.size))
      have SX := Lib.hid NA
      obtain ⟨q0, q1, q2, q3, q4⟩ := NA.cells
      have hcall := HP.out w5 x HB5.out
      unfold evV at hcall
      have HCL := Lib.hid hcall
      clear HM HB NA bA hw5 hxb y0 y1 y2 y3 y4 hcall
      go_wp2_with fail
      refine HCL.out.mono ?_
      rintro e w6 ⟨rfl, b6⟩
      have HM6 := Lib.hid (HM5.out.below b6)
      have HB6 := Lib.hid (HB5.out.trans (b6.mono HB5.out.size))
      have N6 := SX.out.below b6
      obtain ⟨q0, q1, q2, q3, q4⟩ := N6.cells
      clear HM5 HB5 SX N6 b6 HCL
      cases hq : p x with
      | true =>
        have HN : Hid ((Es.take (j + 1)).filter (fun x => !p x) = M) := Lib.hid (by rw [HSN.out, hq, HMM.out]; simp)
        clear hq
        go_wp2_with fail
        go_roundw
        case rel => exact ⟨j + 1, M, by omega, by go_num, by omega, HN.out.symm, ⟨_, _, rfl⟩, HM6, HB6⟩
        case measure => simp [intOf]; omega
      | false =>
        have HN : Hid ((Es.take (j + 1)).filter (fun x => !p x) = M ++ [x]) := Lib.hid (by rw [HSN.out, hq, HMM.out]; simp)
        have bR := (Below.refl w6.heap.size w6).alloc (Nat.le_refl _) (.cells #[.int .i64 x.ses, .int .i64 x.no, .string x.path, .int .i64 x.what, .int .i64 x.when] 54)
        have HMR := Lib.hid (HM6.out.below bR)
        have HBR := Lib.hid (HB6.out.trans (bR.mono HB6.out.size))
        have HCE : Hid (∀ i u, (evOne x)[i]? = some u → (w6.alloc (.cells #[.int .i64 x.ses, .int .i64 x.no, .string x.path, .int .i64 x.what, .int .i64 x.when] 54)).cell? ((⟨w6.heap.size, 0, none⟩ : Addr).add i) = some u) := Lib.hid (fun i u hu => ev_cells x w6.heap.size _ (heap_alloc_new w6 _) i u hu)
        clear hq bR HM6 HB6
        go_wp2_with (at_builtin; refine wpList_append_own _ rfl _ _ _ rfl w.heap.size 54 i1 _ 5 48 und_evs hi1 hz1 hz2 hz3 rfl (by decide) (.slice la M.length lc) M.length (cellsK evOne M) rfl HMR.out ⟨w6.heap.size, 0, none⟩ 1 1 (evOne x) rfl rfl HCE.out (evOne_one x) (by unfold maxLen; omega) (by omega) HBR.out.size ?_; intro v8 w8 hown8 hgrow8 hiff8; go_frame)
        have R8 : ERow w8 w.heap.size v8 (M ++ [x]) := by
          unfold ERow
          rw [cellsK_append, List.length_append]
          simpa [cellsK] using hown8
        have HB8 := Lib.hid (HBR.out.grown hgrow8 HBR.out.size (fun q hq => (row_own HMR.out hq).choose_spec.2))
        obtain ⟨a8, c8, rfl, _⟩ := evV_form R8
        have HR8 := Lib.hid R8
        clear hown8 hgrow8 hiff8 R8 HMR HBR HCE q0 q1 q2 q3 q4
        go_wp2_with fail
        go_roundw
        case rel => exact ⟨j + 1, M ++ [x], by omega, by go_num, by simp; omega, HN.out.symm, ⟨_, _, rfl⟩, HR8, HB8⟩
        case measure => simp [intOf]; omega
    · obtain rfl : j = Es.length := by omega
      have hlt2 : decide ((Es.length : Int) < (Es.length : Int)) = false := by simp
      rw [List.take_length] at hM
      have x9 := (HH.out.below HB.out).c1
      have f9 := (HH.out.below HB.out).frz 1
      have HK := Lib.hid ((HH.out.below HB.out).turnE (v' := .slice la M.length lc) (L' := M) (⟨rfl, rfl, rfl, Nat.le_refl _, fun _ _ _ => rfl⟩) (ownsRow_less HM.out HH.out.lo.2))
      have HF := Lib.hid (FrM.setE (mb := mb) (vw := vw) (ve := .slice ea Es.length ec) (vm := vm) (v' := .slice la M.length lc) HB.out (fun b hb => (row_own HM.out hb).choose_spec.2))
      have HMM := Lib.hid hM
      clear hM HM
      go_wp2_with fail
      go_end0
      rw [← HMM.out]
      exact ⟨rfl, _, HK.out, HF.out⟩
end
section
open Go.RowKit Go.Maps
set_option linter.unusedVariables false
set_option linter.unusedSimpArgs false
set_option maxRecDepth 100000

theorem mdrope_any (s : Int) (sb : Nat) (x : Ev) (w : World) (h1 : w.cell? ⟨sb, 0, none⟩ = some (.int .i64 s)) :
    Calls Tryz.prog 53 #[evV x, .pointer (some ⟨sb, 0, none⟩)] w fun e w' => e = .returned (.bool (x.ses == s)) ∧ Below w.heap.size w w' := by
  have bA := (Below.refl w.heap.size w).alloc (Nat.le_refl _) (.cells #[.int .i64 x.ses, .int .i64 x.no, .string x.path, .int .i64 x.what, .int .i64 x.when] 54)
  have hs : sb < w.heap.size := World.block_lt_of_cell? w _ h1
  have k1 := (bA.cell (p := ⟨sb, 0, none⟩) hs).trans h1
  unfold evV
  go_enter Tryz.func53, Tryz.ntmps53
  go_wp2_with fail
  go_ret
  exact ⟨rfl, bA⟩
set_option maxHeartbeats 4000000 in
theorem before_any (x y : Wa) (w : World) : Calls Tryz.prog 47 #[waV x, waV y] w fun e w' => e = .returned (.bool (decide (orderF x y < 0))) ∧ Below w.heap.size w w' := by
  have b1 := (Below.refl w.heap.size w).alloc (Nat.le_refl _) (.cells #[.int .i64 x.ses, .string x.path, .bool x.kids, .bool x.once] 49)
  have b2 := b1.alloc b1.size (.cells #[.int .i64 y.ses, .string y.path, .bool y.kids, .bool y.once] 49)
  have HB := Lib.hid b2
  have hdec : ∀ r : Bool, (r = true ↔ LtW x y) → decide (orderF x y < 0) = r := fun r h => by
    have h2 := @orderF_lt x y
    cases r with
    | true => exact decide_eq_true (h2.2 (h.1 rfl))
    | false => exact decide_eq_false (fun e => by have := h.2 (h2.1 e); cases this)
  obtain ⟨xs, xp, xk, xo⟩ := x
  obtain ⟨ys, yp, yk, yo⟩ := y
  simp only [LtW] at hdec
  have HD := Lib.hid hdec
  clear hdec b1 b2
  unfold waV
  simp only at HB ⊢
  by_cases h1 : xs = ys
  · subst h1
    have e1 : (xs == xs) = true := by simp
    by_cases h2 : xp.data.toList = yp.data.toList
    · obtain rfl := baq h2
      have e2 : (xp.toList == xp.toList) = true := by simp
      have HR : Hid (decide (orderF ⟨xs, xp, xk, xo⟩ ⟨xs, xp, yk, yo⟩ < 0) = if xk = yk then !xo && yo else yk) := Lib.hid (HD.out _ (by
        cases xk <;> cases yk <;> cases xo <;> cases yo <;> simp [List.lt_irrefl]))
      clear HD h2
      cases xk <;> cases yk <;> cases xo <;> cases yo <;>
      · go_enter Tryz.func47, Tryz.ntmps47
        go_wp2_with fail
        go_ret
        rw [HR.out]
        exact ⟨rfl, HB.out⟩
    · have e2 : (xp.toList == yp.toList) = false := by rw [Lib.toList_data, Lib.toList_data]; simpa using h2
      obtain ⟨r, hr⟩ : ∃ r, r = Op.bytesLess xp.toList yp.toList := ⟨_, rfl⟩
      have hr2 := hr
      rw [Lib.toList_data, Lib.toList_data, bytesLess_eq] at hr2
      have HR := Lib.hid (HD.out r (by
        rw [hr2]
        have : xp ≠ yp := fun e => h2 (by rw [e])
        simp [this]))
      have hr3 := hr.symm
      clear HD h2 hr hr2
      go_enter Tryz.func47, Tryz.ntmps47
      go_wp2_with fail
      go_ret
      rw [HR.out]
      exact ⟨rfl, HB.out⟩
  · have e1 : (xs == ys) = false := by simpa using h1
    obtain ⟨r, hr⟩ : ∃ r, r = decide (xs < ys) := ⟨_, rfl⟩
    have HR := Lib.hid (HD.out r (by rw [hr]; simp [h1]))
    have hr3 := hr.symm
    clear HD h1 hr
    go_enter Tryz.func47, Tryz.ntmps47
    go_wp2_with fail
    go_ret
    rw [HR.out]
    exact ⟨rfl, HB.out⟩
end
section
open Go.RowKit Go.Maps
set_option linter.unusedVariables false
set_option linter.unusedSimpArgs false
set_option maxRecDepth 100000

theorem wa_cells (y : Wa) (gb : Nat) (w6 : World) (N6 : w6.heap[gb]? = some (.cells #[.int .i64 y.ses, .string y.path, .bool y.kids, .bool y.once] 49 (0, 0))) (j : Nat) (u : Value) (hu : (waOne y)[j]? = some u) : w6.cell? ((⟨gb, 0, none⟩ : Addr).add j) = some u := by
  rw [show (⟨gb, 0, none⟩ : Addr).add j = ⟨gb, j, none⟩ by rw [Addr.add_lit, Nat.zero_add]]
  match j, hu with
  | 0, hu => simp [waOne] at hu; rw [← hu]; simp [World.cell?, N6]
  | 1, hu => simp [waOne] at hu; rw [← hu]; simp [World.cell?, N6]
  | 2, hu => simp [waOne] at hu; rw [← hu]; simp [World.cell?, N6]
  | 3, hu => simp [waOne] at hu; rw [← hu]; simp [World.cell?, N6]
theorem filt_snocW {p : Wa → Bool} {L : List Wa} {j : Nat} {x : Wa} (h : L[j]? = some x) : (L.take (j + 1)).filter p = (L.take j).filter p ++ (if p x then [x] else []) := by
  obtain ⟨h1, h2⟩ := List.getElem?_eq_some_iff.1 h
  rw [List.take_succ_eq_append_getElem h1, List.filter_append, h2]
  cases hp : p x <;> simp [hp]
theorem FrM.setW {w w' : World} {mb : Nat} {vw ve vm v' : Value} (h : Below w.heap.size w w') (hv : ∀ b, v'.ownBlock = some b → w.heap.size ≤ b) : FrM w (w'.setCell ⟨mb, 0, none⟩ v') mb vw ve vm v' ve vm := by
  have hs := set_grown w' mb 0 v'
  refine ⟨hs.os.trans h.os, hs.tape.trans h.tape, hs.output.trans h.output, Nat.le_trans h.size hs.size, fun b hb hn => ?_, fun b hb => ?_⟩
  · exact (hs.block b (Nat.lt_of_lt_of_le hb h.size) (fun e => hn (.inl (Option.some.inj e)))).trans (h.block b hb)
  · rcases hb with e | e | e | e
    · exact .inl (.inl e)
    · exact .inr (hv b e)
    · exact .inl (.inr (.inr (.inl e)))
    · exact .inl (.inr (.inr (.inr e)))
theorem MoW.own_lt {w : World} {base mb : Nat} {vw ve vm : Value} {Ws : List Wa} {Es : List Ev} {k c : Nat} {N : Int → Option Int} (h : MoW w base mb vw ve vm Ws Es k c N) {b : Nat} (hb : OwnM mb vw ve vm b) : b < w.heap.size := by
  rcases hb with e | e | e | e
  · rw [e]; exact h.lt
  · obtain ⟨_, h1, _⟩ := row_own h.ws e; exact (Array.getElem?_eq_some_iff.1 h1).1
  · obtain ⟨_, h1, _⟩ := row_own h.es e; exact (Array.getElem?_eq_some_iff.1 h1).1
  · rcases h.last with ⟨h1, _⟩ | ⟨q, h1, h2, _⟩
    · rw [h1] at e; cases e
    · rw [h1] at e; cases e; exact h2.lt
theorem run_moF2 (W : World) (b : Nat) : (Instr.fieldAt 32 (.pointer (some ⟨b, 0, none⟩)) 2).run Tryz.prog W = .ok (.pointer (some ⟨b, 2, none⟩)) W := by go_simp
set_option maxHeartbeats 8000000 in
theorem mdrop_any (base mb : Nat) (vw ve vm : Value) (Ws : List Wa) (Es : List Ev) (k c : Nat) (N : Int → Option Int) (s : Int) (w : World) (h : MoW w base mb vw ve vm Ws Es k c N) (hs : InR s) (hlw : Ws.length ≤ 100000) (hle : Es.length ≤ 100000) :
    Calls Tryz.prog 26 #[.pointer (some ⟨mb, 0, none⟩), .int .i64 s] w fun e w' => e = .returned (.tuple #[]) ∧ ∃ vw' ve' c', MoW w' base mb vw' ve' vm (Ws.filter fun x => !(x.ses == s)) (Es.filter fun x => !(x.ses == s)) k c' (updN N s none) ∧ FrM w w' mb vw ve vm vw' ve' vm := by
  obtain ⟨i1, hi1, hz1, hz2, hz3⟩ := info_parts info_wa
  have b1 := (Below.refl w.heap.size w).alloc (Nat.le_refl _) (.cells #[.int .i64 s] 3)
  have N1 := heap_alloc_new w (.cells #[.int .i64 s] 3)
  obtain ⟨w1, hw1⟩ : ∃ w1, w1 = w.alloc (.cells #[.int .i64 s] 3) := ⟨_, rfl⟩
  obtain ⟨sb, hsb⟩ : ∃ sb, sb = w.heap.size := ⟨_, rfl⟩
  have HSB := Lib.hid hsb
  rw [← hw1] at b1 N1
  rw [← hsb] at N1
  have hs1 : sb < w1.heap.size := (Array.getElem?_eq_some_iff.1 N1).1
  have h1 := h.below b1
  have hno : ∀ b, OwnM mb vw ve vm b → b ≠ sb := fun b hb => by have := h.own_lt hb; omega
  have HLT := Lib.hid (mlet_any 53 #[.pointer (some ⟨sb, 0, none⟩)] (enters_of Tryz.func53 (by kernel_rfl) rfl) (fun x => x.ses == s) base mb vw ve vm Ws Es k c N w1 h1 hle (fun W x hW => mdrope_any s sb x W (by
    have := (hW.block sb hs1).trans N1
    simp [World.cell?, this])))
  have HW1 := Lib.hid hw1
  have HB1 := Lib.hid b1
  have HNO := Lib.hid hno
  have HN1 := Lib.hid N1
  have hsm : sb ≠ mb := fun e => hno mb (.inl rfl) e.symm
  have HSM := Lib.hid hsm
  clear hsm
  have hF0 : FrM w w1 mb vw ve vm vw ve vm := FrM.low b1
  have HF0 := Lib.hid hF0
  clear h h1 b1 hw1 hno hF0 N1 hsb
  go_enter Tryz.func26, Tryz.ntmps26
  go_upto_region 1 with fail
  rw [← HW1.out, ← HSB.out]
  go_wp2_with fail
  refine HLT.out.mono ?_
  rintro e w2 ⟨rfl, ve', K2, F2⟩
  have N2 : w2.heap[sb]? = some (.cells #[.int .i64 s] 3 (0, 0)) := (F2.keep sb hs1 (fun e => HNO.out sb e rfl)).trans HN1.out
  have hs2 : sb < w2.heap.size := (Array.getElem?_eq_some_iff.1 N2).1
  have bA := (Below.refl w2.heap.size w2).alloc (Nat.le_refl _) (.cells #[] 49)
  have RW : WRow (w2.alloc (.cells #[] 49)) w2.heap.size (.slice (some ⟨w2.heap.size, 0, none⟩) 0 0) [] := World.ownsRow_made w2 #[] 0 (Nat.le_refl _) (Nat.zero_le _) rfl
  obtain ⟨wa, wc, rfl, hwa, _⟩ := waV_form K2.ws
  have x2 := (K2.below bA).c0
  have HWA := Lib.hid hwa
  have HK2 := Lib.hid K2
  have HF2 := Lib.hid (HF0.out.trans F2)
  have HBA := Lib.hid bA
  have HRW := Lib.hid RW
  have HS2 : Hid (∀ W : World, Below w2.heap.size w2 W → W.cell? ⟨sb, 0, none⟩ = some (.int .i64 s)) := Lib.hid (fun W hW => by
    have := (hW.block sb hs2).trans N2
    simp [World.cell?, this])
  clear K2 F2 N2 bA RW hwa HLT HF0 HN1 HB1 HNO
  go_wp2_with fail
  go_loopw [4, 16] (fun lv iv wr => ∃ (j : Nat) (M : List Wa), j ≤ Ws.length ∧ iv = .int .i64 j ∧ M.length ≤ j ∧ M = (Ws.take j).filter (fun x => !(x.ses == s)) ∧ (∃ a cc, lv = .slice a M.length cc) ∧ Hid (WRow wr w2.heap.size lv M) ∧ Hid (Below w2.heap.size w2 wr)) (fun _ iv _ => Ws.length - (intOf iv).toNat)
  case atStart => exact ⟨0, [], by omega, rfl, by simp, by simp, ⟨_, _, rfl⟩, HRW, HBA⟩
  case round =>
    obtain ⟨j, M, hj, rfl, hML, hM, ⟨la, lc, rfl⟩, HM, HB⟩ := hrel
    clear HRW HBA x2
    by_cases hlt : j < Ws.length
    · have hlt2 : decide ((j : Int) < (Ws.length : Int)) = true := by simp; omega
      obtain ⟨x, hx⟩ : ∃ x, Ws[j]? = some x := ⟨Ws[j], by simp [hlt]⟩
      obtain ⟨g, rfl, hgw, _⟩ := HWA.out (by omega)
      have hrw := (HK2.out.below HB.out).ws
      have y0 := waC0 hrw hx rfl
      have y1 := waC1 hrw hx rfl
      have y2 := waC2 hrw hx rfl
      have y3 := waC3 hrw hx rfl
      have hj0 : (0 : Int) ≤ (j : Int) := by omega
      have hji : (j : Int) < (Ws.length : Int) := by omega
      have t2 : IntKind.i64.wrap ((j : Int) + 1) = (j : Int) + 1 := IntWalk.i64_in _ (by omega)
      have HSN := Lib.hid (filt_snocW (p := fun x => !(x.ses == s)) hx)
      have HMM := Lib.hid hM
      clear hrw hx hM
      go_upto_region 6 with fail
      have NA : WaB (wr.alloc (.cells #[.int .i64 x.ses, .string x.path, .bool x.kids, .bool x.once] 49)) wr.heap.size x := heap_alloc_new wr _
      have bA := (Below.refl wr.heap.size wr).alloc (Nat.le_refl _) (.cells #[.int .i64 x.ses, .string x.path, .bool x.kids, .bool x.once] 49)
      obtain ⟨w6, hw6⟩ : ∃ w6, w6 = wr.alloc (.cells #[.int .i64 x.ses, .string x.path, .bool x.kids, .bool x.once] 49) := ⟨_, rfl⟩
      obtain ⟨xb, hxb⟩ : ∃ xb, xb = wr.heap.size := ⟨_, rfl⟩
      rw [← hw6] at NA bA ⊢
      rw [← hxb] at NA ⊢
      have HM6 := Lib.hid (HM.out.below bA)
      have HB6 := Lib.hid (HB.out.trans (bA.mono HB.out.size))
      obtain ⟨q0, q1, q2, q3⟩ := NA.cells
      have r0 := HS2.out w6 HB6.out
      clear HM HB NA bA hw6 hxb y0 y1 y2 y3
      cases hq : (x.ses == s) with
      | true =>
        have HN : Hid ((Ws.take (j + 1)).filter (fun x => !(x.ses == s)) = M) := Lib.hid (by rw [HSN.out, hq, HMM.out]; simp)
        go_wp2_with fail
        go_roundw
        case rel => exact ⟨j + 1, M, by omega, by go_num, by omega, HN.out.symm, ⟨_, _, rfl⟩, HM6, HB6⟩
        case measure => simp [intOf]; omega
      | false =>
        have HN : Hid ((Ws.take (j + 1)).filter (fun x => !(x.ses == s)) = M ++ [x]) := Lib.hid (by rw [HSN.out, hq, HMM.out]; simp)
        have bR := (Below.refl w6.heap.size w6).alloc (Nat.le_refl _) (.cells #[.int .i64 x.ses, .string x.path, .bool x.kids, .bool x.once] 49)
        have HMR := Lib.hid (HM6.out.below bR)
        have HBR := Lib.hid (HB6.out.trans (bR.mono HB6.out.size))
        have HCE : Hid (∀ i u, (waOne x)[i]? = some u → (w6.alloc (.cells #[.int .i64 x.ses, .string x.path, .bool x.kids, .bool x.once] 49)).cell? ((⟨w6.heap.size, 0, none⟩ : Addr).add i) = some u) := Lib.hid (fun i u hu => wa_cells x w6.heap.size _ (heap_alloc_new w6 _) i u hu)
        clear bR HM6 HB6
        go_wp2_with (at_builtin; refine wpList_append_own _ rfl _ _ _ rfl w2.heap.size 49 i1 _ 4 32 und_was hi1 hz1 hz2 hz3 rfl (by decide) (.slice la M.length lc) M.length (cellsK waOne M) rfl HMR.out ⟨w6.heap.size, 0, none⟩ 1 1 (waOne x) rfl rfl HCE.out (waOne_one x) (by unfold maxLen; omega) (by omega) HBR.out.size ?_; intro v8 w8 hown8 hgrow8 hiff8; go_frame)
        have R8 : WRow w8 w2.heap.size v8 (M ++ [x]) := by
          unfold WRow
          rw [cellsK_append, List.length_append]
          simpa [cellsK] using hown8
        have HB8 := Lib.hid (HBR.out.grown hgrow8 HBR.out.size (fun q hq => (row_own HMR.out hq).choose_spec.2))
        obtain ⟨a8, c8, rfl, _⟩ := waV_form R8
        have HR8 := Lib.hid R8
        clear hown8 hgrow8 hiff8 R8 HMR HBR HCE q0 q1 q2 q3 r0 hq
        go_wp2_with fail
        go_roundw
        case rel => exact ⟨j + 1, M ++ [x], by omega, by go_num, by simp; omega, HN.out.symm, ⟨_, _, rfl⟩, HR8, HB8⟩
        case measure => simp [intOf]; omega
    · obtain rfl : j = Ws.length := by omega
      have hlt2 : decide ((Ws.length : Int) < (Ws.length : Int)) = false := by simp
      rw [List.take_length] at hM
      have x9 := (HK2.out.below HB.out).c0
      have f9 := (HK2.out.below HB.out).frz 0
      have hK := (HK2.out.below HB.out).turn (v' := .slice la M.length lc) (L' := M) (⟨rfl, rfl, rfl, Nat.le_refl _, fun _ _ _ => rfl⟩) (ownsRow_less HM.out HK2.out.lo.2)
      have hF := HF2.out.trans (FrM.setW (mb := mb) (vw := .slice wa Ws.length wc) (ve := ve') (vm := vm) (v' := .slice la M.length lc) HB.out (fun b hb => (row_own HM.out hb).choose_spec.2))
      have hcell : (wr.setCell ⟨mb, 0, none⟩ (.slice la M.length lc)).cell? ⟨sb, 0, none⟩ = some (.int .i64 s) := by
        have h5 := Below.heap_setCell wr ⟨mb, 0, none⟩ (.slice la M.length lc) sb HSM.out
        have h6 := HS2.out wr HB.out
        unfold World.cell? at h6 ⊢
        rw [h5]; exact h6
      have HMM := Lib.hid hM
      obtain ⟨w6, hw6⟩ : ∃ w6, w6 = wr.setCell ⟨mb, 0, none⟩ (.slice la M.length lc) := ⟨_, rfl⟩
      have HW6 := Lib.hid hw6
      rw [← hw6] at hK hF hcell
      have HK6 := Lib.hid (hK.below (Below.refl _ w6).drew)
      have HF6 := Lib.hid (hF.trans (FrM.low (mb := mb) (vw := .slice la M.length lc) (ve := ve') (vm := vm) (Below.refl _ w6).drew))
      have HDEL3 : Hid (∃ w7 c', (∀ ty, (Builtin.delete_ #[30, 3] ty #[vm, .int .i64 s]).run Tryz.prog w6.drew = .ok (.tuple #[]) w7) ∧ MoW w7 base mb (.slice la M.length lc) ve' vm M (Es.filter fun x => !(x.ses == s)) k c' (updN N s none) ∧ FrM w w7 mb (.slice wa Ws.length wc) ve vm (.slice la M.length lc) ve' vm) := by
        refine Lib.hid ?_
        have hk := HK6.out
        have hf := HF6.out
        rcases hk.last with ⟨hv, hN, hc0⟩ | ⟨mq, hv, hmap, hmlo⟩
        · refine ⟨w6.drew, c, fun ty => ?_, ?_, hf⟩
          · rw [hv]
            exact Maps.drop_nil lawI und_mapN (keyI hs) ty
          · have e1 : updN N s none = N := by
              rw [hN]
              funext x
              simp [updN]
            rw [e1]
            exact hk
        · rw [hv] at hk hf ⊢
          obtain ⟨w7, h1, h2, h3⟩ := hmap.del s hs 0
          refine ⟨w7, _, fun ty => ?_, hk.turnM h3 h2, hf.trans (FrM.turn h3 (.inr (.inr (.inr rfl))))⟩
          rw [← h1]
          rfl
      have HVM : Hid (∃ q, vm = .map q) := Lib.hid (by
        rcases HK6.out.last with ⟨hv, _⟩ | ⟨mb, hv, _⟩
        · exact ⟨_, hv⟩
        · exact ⟨_, hv⟩)
      have HX2 : Hid (w6.drew.cell? ⟨mb, 2, none⟩ = some vm) := Lib.hid HK6.out.c2
      have HS0 : Hid (w6.drew.cell? ⟨sb, 0, none⟩ = some (.int .i64 s)) := Lib.hid hcell
      clear hM HM hK hF hcell hw6
      go_upto_region 10 with fail
      rw [← HW6.out]
      refine wp_region_inv_last 5 (IFJ (FD4 vm mb s) (fun _ _ W => W = w6.drew)) (by kernel_rfl) (by kernel_rfl) (by kernel_rfl) (by kernel_rfl) (by kernel_rfl) ?_ ?_ ?_
      · intro z
        exact ⟨fun j hj => (by cases hj), rfl⟩
      · intro j o hj ho b z w1 hI hbi hW
        obtain rfl := hI.2
        match j, ho with
        | 0, ho =>
          obtain rfl := Option.some.inj ho
          exact gstep_move rfl (wanted0 rfl) _ rfl _ (eval_of 0 _ (by kernel_rfl) rfl) ⟨_, rfl, IFJ.step hI rfl rfl⟩
        | 1, ho =>
          obtain rfl := Option.some.inj ho
          exact gstep_nil rfl (wanted0 rfl) _ rfl _ (eval_at 33 0 _ (by kernel_rfl) (show 33 < 38 by decide) (hI.1 0 (hW 0 (by kernel_rfl)))) ⟨_, rfl, IFJ.step hI rfl rfl⟩
        | 2, ho =>
          obtain rfl := Option.some.inj ho
          exact gstep_field rfl (wanted0 rfl) _ _ _ rfl _ (eval_at 34 1 _ (by kernel_rfl) (show 34 < 38 by decide) (hI.1 1 (hW 1 (by kernel_rfl)))) _ (run_moF2 _ _) ⟨_, rfl, IFJ.step hI rfl rfl⟩
        | 3, ho =>
          obtain rfl := Option.some.inj ho
          exact gstep_load rfl (wanted0 rfl) _ _ rfl _ (eval_at 35 2 _ (by kernel_rfl) (show 35 < 38 by decide) (hI.1 2 (hW 2 (by kernel_rfl)))) _ (run_lmp _ _ _ HVM.out HX2.out) ⟨_, rfl, IFJ.step hI rfl rfl⟩
        | 4, ho =>
          obtain rfl := Option.some.inj ho
          exact gstep_load rfl (wanted0 rfl) _ _ rfl _ (eval_of 3 _ (by kernel_rfl) rfl) _ (run_lint _ _ _ HS0.out) ⟨_, rfl, IFJ.step hI rfl rfl⟩
        | n + 5, ho => omega
      · intro o ho b z w1 hI hA
        obtain rfl := hI.2
        obtain rfl := Option.some.inj ho
        have hF3 : z 3 = vm := hI.1 3 (hA 3 (by decide))
        have hF4 : z 4 = .int .i64 s := hI.1 4 (hA 4 (by decide))
        obtain ⟨w7, c', hrun, hbk, hbb⟩ := HDEL3.out
        refine gstep_del rfl (wanted0 rfl) _ _ _ _ rfl _ _ (eval_at 36 3 _ (by kernel_rfl) (show 36 < 38 by decide) hF3) (eval_at 37 4 _ (by kernel_rfl) (show 37 < 38 by decide) hF4) _ (hrun _) ?_
        simp only [putAll, Act.put, List.setIfInBounds_toArray, List.set_cons_succ, List.set_cons_zero]
        have HBK := Lib.hid hbk
        have HBB := Lib.hid hbb
        clear hI hA hbk hbb hrun
        go_wp2_with fail
        go_end0
        rw [← HMM.out]
        exact ⟨rfl, _, _, _, HBK.out, HBB.out⟩
end
section
open Go.RowKit Go.Maps
set_option linter.unusedVariables false
set_option linter.unusedSimpArgs false
set_option maxRecDepth 100000

theorem doc_any (s n m : Int) (sb ab : Nat) (x : Ev) (w : World) (h1 : w.cell? ⟨sb, 0, none⟩ = some (.int .i64 s)) (h2 : w.cell? ⟨ab, 2, none⟩ = some (.int .i64 n)) (hm : bits .and .i64 n 15 = m) :
    Calls Tryz.prog 24 #[evV x, .pointer (some ⟨sb, 0, none⟩), .pointer (some ⟨ab, 0, none⟩)] w fun e w' => e = .returned (.bool (notB s m x)) ∧ Below w.heap.size w w' := by
  have bA := (Below.refl w.heap.size w).alloc (Nat.le_refl _) (.cells #[.int .i64 x.ses, .int .i64 x.no, .string x.path, .int .i64 x.what, .int .i64 x.when] 54)
  have hs : sb < w.heap.size := World.block_lt_of_cell? w _ h1
  have hn : ab < w.heap.size := World.block_lt_of_cell? w _ h2
  have k1 := (bA.cell (p := ⟨sb, 0, none⟩) hs).trans h1
  have k2 := (bA.cell (p := ⟨ab, 2, none⟩) hn).trans h2
  unfold evV
  cases e1 : (x.ses == s) with
  | false =>
    have HR : Hid (notB s m x = false) := Lib.hid (by unfold notB; rw [e1]; rfl)
    go_enter Tryz.func24, Tryz.ntmps24
    go_wp2_with fail
    go_ret
    rw [HR.out]; exact ⟨rfl, bA⟩
  | true =>
    cases e2 : decide (x.no ≤ m) with
    | false =>
      have HR : Hid (notB s m x = false) := Lib.hid (by unfold notB; rw [e1, e2]; rfl)
      go_enter Tryz.func24, Tryz.ntmps24
      go_wp2_with fail
      go_ret
      rw [HR.out]; exact ⟨rfl, bA⟩
    | true =>
      have HR : Hid (notB s m x = true) := Lib.hid (by unfold notB; rw [e1, e2]; rfl)
      go_enter Tryz.func24, Tryz.ntmps24
      go_wp2_with fail
      go_ret
      rw [HR.out]; exact ⟨rfl, bA⟩
end
end Go.Proofs.YtbbdokfankgllaaGreatDoor
