/- The law's model of a book in memory; its Let. No conditions beyond those in each statement. -/
import Derived.Test.YtbbdokfankgllaaDoorWLt
import Derived.Deep.DeepCutAuto
namespace Go.Proofs.YtbbdokfankgllaaDoor
open Go.RowKit Go.Maps
set_option linter.unusedVariables false
set_option linter.unusedSimpArgs false
set_option maxRecDepth 100000

structure MoW (w : World) (base bb : Nat) (vw ve vm : Value) (Ws : List Wa) (Es : List Ev) (k c : Nat) (N : Int → Option Int) : Prop where
  box : w.heap[bb]? = some (.cells #[vw, ve, vm] 32 (0, 0))
  ws : WRow w base vw Ws
  es : ERow w base ve Es
  last : (vm = .map none ∧ N = (fun _ => none) ∧ c = 0) ∨ ∃ mb, vm = .map (some mb) ∧ MapN w mb k c N ∧ base ≤ mb
  lo : base ≤ bb ∧ base ≤ w.heap.size
section
variable {w w' : World} {base bb : Nat} {vw ve vm : Value} {Ws : List Wa} {Es : List Ev} {k c : Nat} {N : Int → Option Int}
theorem MoW.lt (h : MoW w base bb vw ve vm Ws Es k c N) : bb < w.heap.size := (Array.getElem?_eq_some_iff.1 h.box).1
theorem MoW.below (h : MoW w base bb vw ve vm Ws Es k c N) (hb : Below w.heap.size w w') : MoW w' base bb vw ve vm Ws Es k c N := by
  refine ⟨(hb.block bb h.lt).trans h.box, h.ws.below hb, h.es.below hb, h.last.imp id ?_, h.lo.1, Nat.le_trans h.lo.2 hb.size⟩
  rintro ⟨mb, h1, h2, h3⟩
  exact ⟨mb, h1, h2.below hb, h3⟩
theorem MoW.c0 (h : MoW w base bb vw ve vm Ws Es k c N) : w.cell? ⟨bb, 0, none⟩ = some vw := by simp [World.cell?, h.box]
theorem MoW.c1 (h : MoW w base bb vw ve vm Ws Es k c N) : w.cell? ⟨bb, 1, none⟩ = some ve := by simp [World.cell?, h.box]
theorem MoW.c2 (h : MoW w base bb vw ve vm Ws Es k c N) : w.cell? ⟨bb, 2, none⟩ = some vm := by simp [World.cell?, h.box]
theorem MoW.frz (h : MoW w base bb vw ve vm Ws Es k c N) (i : Nat) : w.frozen? ⟨bb, i, none⟩ = false := by simp [World.frozen?, h.box]

theorem MoW.ne_w (h : MoW w base bb vw ve vm Ws Es k c N) {g : Nat} (hg : vw.ownBlock = some g) : g ≠ bb := by
  obtain ⟨cur, h1, _⟩ := row_own h.ws hg
  exact cells_ne h1 h.box (by decide)
theorem MoW.turn (h : MoW w base bb vw ve vm Ws Es k c N) {v' : Value} {L' : List Wa} (hg : w.grownBy w' vw.ownBlock) (hr : WRow w' base v' L') : MoW (w'.setCell ⟨bb, 0, none⟩ v') base bb v' ve vm L' Es k c N := by
  have hbox : w'.heap[bb]? = some (.cells #[vw, ve, vm] 32 (0, 0)) := (hg.block bb h.lt (fun e => h.ne_w e.symm rfl)).trans h.box
  have hg2 := set_grown w' bb 0 v'
  refine ⟨?_, ?_, ?_, ?_, h.lo.1, Nat.le_trans h.lo.2 (Nat.le_trans hg.size hg2.size)⟩
  · have := bset (i := 0) (u := v') hbox
    simpa using this
  · refine hr.kept hg2 (fun g e e2 => ?_)
    obtain ⟨cur, h1, _⟩ := row_own hr e
    exact cells_ne h1 hbox (by decide) (Option.some.inj e2).symm
  · have e1 : ERow w' base ve Es := h.es.kept hg (fun g e e2 => by
      obtain ⟨c1, h1, _⟩ := row_own h.es e
      obtain ⟨c2, h2, _⟩ := row_own h.ws e2
      exact cells_ne h1 h2 (by decide) rfl)
    refine e1.kept hg2 (fun g e e2 => ?_)
    obtain ⟨c1, h1, _⟩ := row_own e1 e
    exact cells_ne h1 hbox (by decide) (Option.some.inj e2).symm
  · rcases h.last with h1 | ⟨mb, h1, h2, h3⟩
    · exact .inl h1
    · refine .inr ⟨mb, h1, (h2.keep0 (hg.block mb h2.lt (fun e => ?_))).keep0 (Below.heap_setCell w' ⟨bb, 0, none⟩ v' mb (fun e => ?_)), h3⟩
      · obtain ⟨c1, q1, _⟩ := row_own h.ws e.symm
        exact map_ne q1 h2 rfl
      · exact map_ne h.box h2 e.symm

theorem MoW.ne_e (h : MoW w base bb vw ve vm Ws Es k c N) {g : Nat} (hg : ve.ownBlock = some g) : g ≠ bb := by
  obtain ⟨cur, h1, _⟩ := row_own h.es hg
  exact cells_ne h1 h.box (by decide)
theorem MoW.turnE (h : MoW w base bb vw ve vm Ws Es k c N) {v' : Value} {L' : List Ev} (hg : w.grownBy w' ve.ownBlock) (hr : ERow w' base v' L') : MoW (w'.setCell ⟨bb, 1, none⟩ v') base bb vw v' vm Ws L' k c N := by
  have hbox : w'.heap[bb]? = some (.cells #[vw, ve, vm] 32 (0, 0)) := (hg.block bb h.lt (fun e => h.ne_e e.symm rfl)).trans h.box
  have hg2 := set_grown w' bb 1 v'
  refine ⟨?_, ?_, ?_, ?_, h.lo.1, Nat.le_trans h.lo.2 (Nat.le_trans hg.size hg2.size)⟩
  · have := bset (i := 1) (u := v') hbox
    simpa using this
  · have e1 : WRow w' base vw Ws := h.ws.kept hg (fun g e e2 => by
      obtain ⟨c1, h1, _⟩ := row_own h.ws e
      obtain ⟨c2, h2, _⟩ := row_own h.es e2
      exact cells_ne h1 h2 (by decide) rfl)
    refine e1.kept hg2 (fun g e e2 => ?_)
    obtain ⟨c1, h1, _⟩ := row_own e1 e
    exact cells_ne h1 hbox (by decide) (Option.some.inj e2).symm
  · refine hr.kept hg2 (fun g e e2 => ?_)
    obtain ⟨cur, h1, _⟩ := row_own hr e
    exact cells_ne h1 hbox (by decide) (Option.some.inj e2).symm
  · rcases h.last with h1 | ⟨mb, h1, h2, h3⟩
    · exact .inl h1
    · refine .inr ⟨mb, h1, (h2.keep0 (hg.block mb h2.lt (fun e => ?_))).keep0 (Below.heap_setCell w' ⟨bb, 1, none⟩ v' mb (fun e => ?_)), h3⟩
      · obtain ⟨c1, q1, _⟩ := row_own h.es e.symm
        exact map_ne q1 h2 rfl
      · exact map_ne h.box h2 e.symm

theorem MoW.turnM {mb k' c' : Nat} {N' : Int → Option Int} (h : MoW w base bb vw ve (.map (some mb)) Ws Es k c N) (hg : w.grownBy w' (some mb)) (hm : MapN w' mb k' c' N') : MoW w' base bb vw ve (.map (some mb)) Ws Es k' c' N' := by
  rcases h.last with ⟨h1, _⟩ | ⟨mb', h1, h2, h3⟩
  · cases h1
  · injection h1 with h1
    injection h1 with h1
    subst h1
    refine ⟨(hg.block bb h.lt (fun e => map_ne h.box h2 (Option.some.inj e))).trans h.box, ?_, ?_, .inr ⟨mb, rfl, hm, h3⟩, h.lo.1, Nat.le_trans h.lo.2 hg.size⟩
    · exact h.ws.kept hg (fun g e e2 => by
        obtain ⟨c1, q1, _⟩ := row_own h.ws e
        exact map_ne q1 h2 (Option.some.inj e2).symm)
    · exact h.es.kept hg (fun g e e2 => by
        obtain ⟨c1, q1, _⟩ := row_own h.es e
        exact map_ne q1 h2 (Option.some.inj e2).symm)
theorem MoW.mono {k' : Nat} (h : MoW w base bb vw ve vm Ws Es k c N) (hk : k ≤ k') : MoW w base bb vw ve vm Ws Es k' c N :=
  ⟨h.box, h.ws, h.es, h.last.imp id (fun ⟨mb, h1, h2, h3⟩ => ⟨mb, h1, h2.mono hk, h3⟩), h.lo⟩
theorem MoW.madeM (h : MoW w base bb vw ve (.map none) Ws Es k c N) : MoW ((w.setCell ⟨bb, 2, none⟩ (.map (some w.heap.size))).alloc (.map #[] 0)) base bb vw ve (.map (some w.heap.size)) Ws Es 0 0 (fun _ => none) ∧ Below base w ((w.setCell ⟨bb, 2, none⟩ (.map (some w.heap.size))).alloc (.map #[] 0)) ∧ MapN ((w.setCell ⟨bb, 2, none⟩ (.map (some w.heap.size))).alloc (.map #[] 0)) w.heap.size 0 0 (fun _ => none) := by
  have hg := set_grown w bb 2 (.map (some w.heap.size))
  have hbox := bset (i := 2) (u := .map (some w.heap.size)) h.box
  have hsz : (w.setCell ⟨bb, 2, none⟩ (.map (some w.heap.size))).heap.size = w.heap.size := by simp
  have q0 : Below base w (w.setCell ⟨bb, 2, none⟩ (.map (some w.heap.size))) := (Below.refl base w).setCell (p := ⟨bb, 2, none⟩) h.lo.1 _
  have hw := h.ws.kept hg (fun g e e2 => by
      obtain ⟨c1, q1, _⟩ := row_own h.ws e
      exact cells_ne q1 h.box (by decide) (Option.some.inj e2).symm)
  have he := h.es.kept hg (fun g e e2 => by
      obtain ⟨c1, q1, _⟩ := row_own h.es e
      exact cells_ne q1 h.box (by decide) (Option.some.inj e2).symm)
  have hm := MapN.new (w.setCell ⟨bb, 2, none⟩ (.map (some w.heap.size)))
  have hlo := h.lo
  have hbl := h.lt
  generalize w.setCell ⟨bb, 2, none⟩ (.map (some w.heap.size)) = W0 at *
  rw [hsz] at hm
  have b1 := (Below.refl W0.heap.size W0).alloc (Nat.le_refl _) (.map #[] 0)
  have hbox1 := (b1.block bb (by omega)).trans hbox
  refine ⟨⟨by simpa using hbox1, hw.below b1, he.below b1, .inr ⟨w.heap.size, rfl, hm, hlo.2⟩, hlo.1, Nat.le_trans hlo.2 (by have := b1.size; omega)⟩, q0.trans (b1.mono (by omega)), hm⟩

end
theorem FrM.setE {w w' : World} {mb : Nat} {vw ve vm v' : Value} (h : Below w.heap.size w w') (hv : ∀ b, v'.ownBlock = some b → w.heap.size ≤ b) : FrM w (w'.setCell ⟨mb, 1, none⟩ v') mb vw ve vm vw v' vm := by
  have hs := set_grown w' mb 1 v'
  refine ⟨hs.os.trans h.os, hs.tape.trans h.tape, hs.output.trans h.output, Nat.le_trans h.size hs.size, fun b hb hn => ?_, fun b hb => ?_⟩
  · exact (hs.block b (Nat.lt_of_lt_of_le hb h.size) (fun e => hn (.inl (Option.some.inj e)))).trans (h.block b hb)
  · rcases hb with e | e | e | e
    · exact .inl (.inl e)
    · exact .inl (.inr (.inl e))
    · exact .inr (hv b e)
    · exact .inl (.inr (.inr (.inr e)))
theorem filt_snoc {p : Ev → Bool} {L : List Ev} {j : Nat} {x : Ev} (h : L[j]? = some x) : (L.take (j + 1)).filter p = (L.take j).filter p ++ (if p x then [x] else []) := by
  obtain ⟨h1, h2⟩ := List.getElem?_eq_some_iff.1 h
  rw [List.take_succ_eq_append_getElem h1, List.filter_append, h2]
  cases hp : p x <;> simp [hp]
set_option maxHeartbeats 8000000 in
theorem mlet_any (fn : Nat) (cb : Array Value) (eg : ∀ args w, (callFunc fn args).run Tryd.prog w = .ok (.enter fn args) w) (p : Ev → Bool) (base mb : Nat) (vw ve vm : Value) (Ws : List Wa) (Es : List Ev) (k c : Nat) (N : Int → Option Int) (w : World) (h : MoW w base mb vw ve vm Ws Es k c N) (hl : Es.length ≤ 100000)
    (hp : ∀ W x, Below w.heap.size w W → Calls Tryd.prog fn (#[evV x] ++ cb) W fun e W' => e = .returned (.bool (p x)) ∧ Below W.heap.size W W') :
    Calls Tryd.prog 21 #[.pointer (some ⟨mb, 0, none⟩), .func (.func fn) #[] cb] w fun e w' => e = .returned (.tuple #[]) ∧ ∃ ve', MoW w' base mb vw ve' vm Ws (Es.filter fun x => !p x) k c N ∧ FrM w w' mb vw ve vm vw ve' vm := by
  obtain ⟨i1, hi1, hz1, hz2, hz3⟩ := info_parts info_ev
  obtain ⟨ea, ec, rfl, hea, _⟩ := evV_form h.es
  have HEA := Lib.hid hea
  have HH := Lib.hid h
  have HP := Lib.hid hp
  have hbb := h.lt
  have x1 := h.c1
  have bA := (Below.refl w.heap.size w).alloc (Nat.le_refl _) (.cells #[] 50)
  have RW : ERow (w.alloc (.cells #[] 50)) w.heap.size (.slice (some ⟨w.heap.size, 0, none⟩) 0 0) [] := World.ownsRow_made w #[] 0 (Nat.le_refl _) (Nat.zero_le _) rfl
  have x2 := (HH.out.below bA).c1
  have HBA := Lib.hid bA
  have HRW := Lib.hid RW
  clear h hp hea bA RW
  go_enter Tryd.func21, Tryd.ntmps21
  go_wp2_with fail
  go_loopw [4, 13] (fun lv iv wr => ∃ (j : Nat) (M : List Ev), j ≤ Es.length ∧ iv = .int .i64 j ∧ M.length ≤ j ∧ M = (Es.take j).filter (fun x => !p x) ∧ (∃ a cc, lv = .slice a M.length cc) ∧ Hid (ERow wr w.heap.size lv M) ∧ Hid (Below w.heap.size w wr)) (fun _ iv _ => Es.length - (intOf iv).toNat)
  case atStart => exact ⟨0, [], by omega, rfl, by simp, by simp, ⟨_, _, rfl⟩, HRW, HBA⟩
  case round =>
    obtain ⟨j, M, hj, rfl, hML, hM, ⟨la, lc, rfl⟩, HM, HB⟩ := hrel
    clear HRW HBA x1 x2
    by_cases hlt : j < Es.length
    · have hlt2 : decide ((j : Int) < (Es.length : Int)) = true := by simp; omega
      obtain ⟨x, hx⟩ : ∃ x, Es[j]? = some x := ⟨Es[j], by simp [hlt]⟩
      obtain ⟨g, rfl, hgw, _⟩ := HEA.out (by omega)
      have hrw := (HH.out.below HB.out).es
      have y0 := evC0 hrw hx rfl
      have y1 := evC1 hrw hx rfl
      have y2 := evC2 hrw hx rfl
      have y3 := evC3 hrw hx rfl
      have y4 := evC4 hrw hx rfl
      have hj0 : (0 : Int) ≤ (j : Int) := by omega
      have hji : (j : Int) < (Es.length : Int) := by omega
      have t2 : IntKind.i64.wrap ((j : Int) + 1) = (j : Int) + 1 := IntWalk.i64_in _ (by omega)
      have HSN := Lib.hid (filt_snoc (p := fun x => !p x) hx)
      have HMM := Lib.hid hM
      clear hrw hx hM
      go_upto_region 4 with fail
      have NA : EvB (wr.alloc (.cells #[.int .i64 x.ses, .int .i64 x.no, .string x.path, .int .i64 x.what, .int .i64 x.when] 50)) wr.heap.size x := heap_alloc_new wr _
      have bA := (Below.refl wr.heap.size wr).alloc (Nat.le_refl _) (.cells #[.int .i64 x.ses, .int .i64 x.no, .string x.path, .int .i64 x.what, .int .i64 x.when] 50)
      obtain ⟨w5, hw5⟩ : ∃ w5, w5 = wr.alloc (.cells #[.int .i64 x.ses, .int .i64 x.no, .string x.path, .int .i64 x.what, .int .i64 x.when] 50) := ⟨_, rfl⟩
      obtain ⟨xb, hxb⟩ : ∃ xb, xb = wr.heap.size := ⟨_, rfl⟩
      rw [← hw5] at NA bA ⊢
      rw [← hxb] at NA ⊢
      have HM5 := Lib.hid (HM.out.below bA)
      have HB5 := Lib.hid (HB.out.trans (bA.mono HB.out.size))
      have SX := Lib.hid NA
      obtain ⟨q0, q1, q2, q3, q4⟩ := NA.cells
      have hcall := HP.out w5 x HB5.out
      unfold evV at hcall
      have HCL := Lib.hid hcall
      clear HM HB NA bA hw5 hxb y0 y1 y2 y3 y4 hcall
      go_wp2_with fail
      refine HCL.out.mono ?_
      rintro e w6 ⟨rfl, b6⟩
      have HM6 := Lib.hid (HM5.out.below b6)
      have HB6 := Lib.hid (HB5.out.trans (b6.mono HB5.out.size))
      have N6 := SX.out.below b6
      obtain ⟨q0, q1, q2, q3, q4⟩ := N6.cells
      clear HM5 HB5 SX N6 b6 HCL
      cases hq : p x with
      | true =>
        have HN : Hid ((Es.take (j + 1)).filter (fun x => !p x) = M) := Lib.hid (by rw [HSN.out, hq, HMM.out]; simp)
        clear hq
        go_wp2_with fail
        go_roundw
        case rel => exact ⟨j + 1, M, by omega, by go_num, by omega, HN.out.symm, ⟨_, _, rfl⟩, HM6, HB6⟩
        case measure => simp [intOf]; omega
      | false =>
        have HN : Hid ((Es.take (j + 1)).filter (fun x => !p x) = M ++ [x]) := Lib.hid (by rw [HSN.out, hq, HMM.out]; simp)
        have bR := (Below.refl w6.heap.size w6).alloc (Nat.le_refl _) (.cells #[.int .i64 x.ses, .int .i64 x.no, .string x.path, .int .i64 x.what, .int .i64 x.when] 50)
        have HMR := Lib.hid (HM6.out.below bR)
        have HBR := Lib.hid (HB6.out.trans (bR.mono HB6.out.size))
        have HCE : Hid (∀ i u, (evOne x)[i]? = some u → (w6.alloc (.cells #[.int .i64 x.ses, .int .i64 x.no, .string x.path, .int .i64 x.what, .int .i64 x.when] 50)).cell? ((⟨w6.heap.size, 0, none⟩ : Addr).add i) = some u) := Lib.hid (fun i u hu => ev_cells x w6.heap.size _ (heap_alloc_new w6 _) i u hu)
        clear hq bR HM6 HB6
        go_wp2_with (at_builtin; refine wpList_append_own _ rfl _ _ _ rfl w.heap.size 50 i1 _ 5 48 und_evs hi1 hz1 hz2 hz3 rfl (by decide) (.slice la M.length lc) M.length (cellsK evOne M) rfl HMR.out ⟨w6.heap.size, 0, none⟩ 1 1 (evOne x) rfl rfl HCE.out (evOne_one x) (by unfold maxLen; omega) (by omega) HBR.out.size ?_; intro v8 w8 hown8 hgrow8 hiff8; go_frame)
        have R8 : ERow w8 w.heap.size v8 (M ++ [x]) := by
          unfold ERow
          rw [cellsK_append, List.length_append]
          simpa [cellsK] using hown8
        have HB8 := Lib.hid (HBR.out.grown hgrow8 HBR.out.size (fun q hq => (row_own HMR.out hq).choose_spec.2))
        obtain ⟨a8, c8, rfl, _⟩ := evV_form R8
        have HR8 := Lib.hid R8
        clear hown8 hgrow8 hiff8 R8 HMR HBR HCE q0 q1 q2 q3 q4
        go_wp2_with fail
        go_roundw
        case rel => exact ⟨j + 1, M ++ [x], by omega, by go_num, by simp; omega, HN.out.symm, ⟨_, _, rfl⟩, HR8, HB8⟩
        case measure => simp [intOf]; omega
    · obtain rfl : j = Es.length := by omega
      have hlt2 : decide ((Es.length : Int) < (Es.length : Int)) = false := by simp
      rw [List.take_length] at hM
      have x9 := (HH.out.below HB.out).c1
      have f9 := (HH.out.below HB.out).frz 1
      have HK := Lib.hid ((HH.out.below HB.out).turnE (v' := .slice la M.length lc) (L' := M) (⟨rfl, rfl, rfl, Nat.le_refl _, fun _ _ _ => rfl⟩) (ownsRow_less HM.out HH.out.lo.2))
      have HF := Lib.hid (FrM.setE (mb := mb) (vw := vw) (ve := .slice ea Es.length ec) (vm := vm) (v' := .slice la M.length lc) HB.out (fun b hb => (row_own HM.out hb).choose_spec.2))
      have HMM := Lib.hid hM
      clear hM HM
      go_wp2_with fail
      go_end0
      rw [← HMM.out]
      exact ⟨rfl, _, HK.out, HF.out⟩
end Go.Proofs.YtbbdokfankgllaaDoor
