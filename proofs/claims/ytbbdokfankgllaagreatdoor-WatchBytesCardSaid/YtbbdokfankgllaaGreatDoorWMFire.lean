/- The model's Fire. No conditions beyond those in each statement. -/
import Derived.Test.YtbbdokfankgllaaGreatDoorWModA
namespace Go.Proofs.YtbbdokfankgllaaGreatDoor
open Go.RowKit Go.Maps Go.Shelf
set_option linter.unusedVariables false
set_option linter.unusedSimpArgs false
set_option maxRecDepth 100000

theorem run_moG1 (W : World) (b : Nat) : (Instr.fieldAt 32 (.pointer (some ⟨b, 0, none⟩)) 1).run Tryz.prog W = .ok (.pointer (some ⟨b, 1, none⟩)) W := by go_simp
section
variable {P : Program} {Q : Exit → Act → World → Prop} {l : List Oper}
theorem gstep_mapup {i : Nat} {o : Oper} {a : Act} {w : World} {K : Act → World → Prop} (ho : l[i]? = some o) (hw : WantedIs l a o true) (t : TypeId) (s1 s2 s3 : Operand) (hop : o.op = .mapUpdate t s1 s2 s3) (v1 v2 v3 : Value) (he1 : a.eval s1 = v1) (he2 : a.eval s2 = v2) (he3 : a.eval s3 = v3) (w' : World)
    (hr : (Instr.mapUpdate t v1 v2 v3).run P w = .ok () w') (h : K (a.put o.dst undef) w') : Step P l Q i K a w := by
  refine ⟨?_⟩
  unfold wpOp
  rw [show l.toArray[i]? = some o by simpa using ho]
  simp only [show Region.wanted o (yielded l.toArray a.tmps) = true from hw, if_true]
  left
  unfold Oper.wp
  rw [show (execOp a.eval o).run P w = .ok .skip w' by simp only [execOp, hop, he1, he2, he3, Sem.run_bind, Sem.run_pure, hr, Result.andThen_ok]]
  exact h
end
section
variable {a w w' : World} {base mb : Nat} {v1 v2 v3 vw ve vm v' : Value} {Ws : List Wa} {Es : List Ev} {k c : Nat} {N : Int → Option Int} {r : Option Nat}
theorem FrM.grown (h : FrM a w mb v1 v2 v3 vw ve vm) (hg : w.grownBy w' r) (hr : ∀ q, r = some q → a.heap.size ≤ q) : FrM a w' mb v1 v2 v3 vw ve vm :=
  ⟨hg.os.trans h.os, hg.tape.trans h.tape, hg.output.trans h.output, Nat.le_trans h.size hg.size, fun b hb hn => (hg.block b (Nat.lt_of_lt_of_le hb h.size) (fun e => by have := hr b e.symm; omega)).trans (h.keep b hb hn), h.own⟩
theorem FrM.putW (h : FrM a w mb v1 v2 v3 vw ve vm) (hv : ∀ b, v'.ownBlock = some b → a.heap.size ≤ b) : FrM a (w.setCell ⟨mb, 0, none⟩ v') mb v1 v2 v3 v' ve vm := by
  have hs := set_grown w mb 0 v'
  have h1 : FrM w (w.setCell ⟨mb, 0, none⟩ v') mb vw ve vm vw ve vm := FrM.turn hs (.inl rfl)
  have h2 := h.trans h1
  refine ⟨h2.os, h2.tape, h2.output, h2.size, h2.keep, fun b hb => ?_⟩
  rcases hb with e | e | e | e
  · exact h2.own b (.inl e)
  · exact .inr (hv b e)
  · exact h2.own b (.inr (.inr (.inl e)))
  · exact h2.own b (.inr (.inr (.inr e)))
theorem MoW.made_frm (h : MoW w base mb vw ve (.map none) Ws Es k c N) : FrM w ((w.setCell ⟨mb, 2, none⟩ (.map (some w.heap.size))).alloc (.map #[] 0)) mb vw ve (.map none) vw ve (.map (some w.heap.size)) := by
  have hs := set_grown w mb 2 (.map (some w.heap.size))
  have hsz : (w.setCell ⟨mb, 2, none⟩ (.map (some w.heap.size))).heap.size = w.heap.size := by simp
  have ha := (Below.refl _ (w.setCell ⟨mb, 2, none⟩ (.map (some w.heap.size)))).alloc (Nat.le_refl _) (.map #[] 0)
  refine ⟨ha.os.trans hs.os, ha.tape.trans hs.tape, ha.output.trans hs.output, Nat.le_trans hs.size ha.size, fun b hb hn => ?_, fun b hb => ?_⟩
  · exact (ha.block b (by omega)).trans (hs.block b hb (fun e => hn (.inl (Option.some.inj e))))
  · rcases hb with e | e | e | e
    · exact .inl (.inl e)
    · exact .inl (.inr (.inl e))
    · exact .inl (.inr (.inr (.inl e)))
    · injection e with e
      exact .inr (Nat.le_of_eq (Option.some.inj e))
/-- A block that is not the model's own may turn. -/
theorem MoW.other (h : MoW w base mb vw ve vm Ws Es k c N) (hg : w.grownBy w' r) (hr : ∀ q, r = some q → ¬ OwnM mb vw ve vm q) : MoW w' base mb vw ve vm Ws Es k c N := by
  refine ⟨(hg.block mb h.lt (fun e => hr mb e.symm (.inl rfl))).trans h.box, h.ws.kept hg (fun g e e2 => hr g e2 (.inr (.inl e))), h.es.kept hg (fun g e e2 => hr g e2 (.inr (.inr (.inl e)))), h.last.imp id ?_, h.lo.1, Nat.le_trans h.lo.2 hg.size⟩
  rintro ⟨q, h1, h2, h3⟩
  exact ⟨q, h1, h2.keep0 (hg.block q h2.lt (fun e => hr q e.symm (.inr (.inr (.inr h1))))), h3⟩
/-- The row of those that stay is not the model's. -/
theorem MoW.left_not {lo : Nat} {lv : Value} {M : List Wa} (h : MoW w base mb vw ve vm Ws Es k c N) (hr : WRow w lo lv M) (hv : ∀ g, vw.ownBlock = some g → g < lo) : ∀ q, lv.ownBlock = some q → ¬ OwnM mb vw ve vm q := fun q hq ho => by
  obtain ⟨cur, h1, h2⟩ := row_own hr hq
  rcases ho with e | e | e | e
  · rw [e] at h1; exact cells_ne h1 h.box (by decide) rfl
  · have := hv q e; omega
  · obtain ⟨c2, h3, _⟩ := row_own h.es e
    exact cells_ne h1 h3 (by decide) rfl
  · rcases h.last with ⟨e1, _⟩ | ⟨m, e1, hm, _⟩
    · rw [e1] at e; cases e
    · rw [e1] at e; injection e with e
      exact map_ne h1 hm (Option.some.inj e).symm
theorem MoW.map {mq : Nat} (h : MoW w base mb vw ve (.map (some mq)) Ws Es k c N) : MapN w mq k c N := by
  rcases h.last with ⟨e1, _⟩ | ⟨m, e1, hm, _⟩
  · cases e1
  · injection e1 with e1; injection e1 with e1; rw [e1]; exact hm
theorem look_mo (h : MoW w base mb vw ve vm Ws Es k c N) (z : Int) (hz : InR z) : (Instr.lookup 30 vm (.int .i64 z) false).run Tryz.prog w = .ok (.int .i64 ((N z).getD 0)) w := by
  rcases h.last with ⟨rfl, rfl, _⟩ | ⟨q, rfl, hm, _⟩
  · exact look_none w z hz
  · exact hm.look z hz
end
/-- What lies beside the model in Fire's loop: the watch at hand, and the row of those that stay. -/
structure Side (w : World) (lo xb : Nat) (x : Wa) (lv : Value) (M : List Wa) : Prop where
  wa : WaB w xb x
  row : WRow w lo lv M
  lo : lo ≤ xb
section
variable {w w' : World} {lo xb : Nat} {x : Wa} {lv : Value} {M : List Wa} {r : Option Nat}
theorem Side.grown (h : Side w lo xb x lv M) (hg : w.grownBy w' r) (hr : ∀ q cs, r = some q → ¬ w.heap[q]? = some (.cells cs 49 (0, 0))) : Side w' lo xb x lv M := by
  refine ⟨(hg.block xb h.wa.lt (fun e => hr xb _ e.symm h.wa)).trans h.wa, h.row.kept hg (fun g e e2 => ?_), h.lo⟩
  obtain ⟨cur, h1, _⟩ := row_own h.row e
  exact hr g cur e2 h1
theorem Side.below (h : Side w lo xb x lv M) (hb : Below w.heap.size w w') : Side w' lo xb x lv M := ⟨h.wa.below hb, h.row.below hb, h.lo⟩
end
def FMf (mb xb : Nat) (ve vm : Value) (e : Ev) : Nat → Value → Prop
  | 0, v => v = .pointer (some ⟨mb, 0, none⟩)
  | 1, v => v = .pointer (some ⟨mb, 0, none⟩)
  | 2, v => v = .pointer (some ⟨mb, 0, none⟩)
  | 3, v => v = .pointer (some ⟨mb, 1, none⟩)
  | 4, v => v = ve
  | 5, v => v = .pointer (some ⟨xb, 0, none⟩)
  | 6, v => v = .int .i64 e.ses
  | 7, v => v = .pointer (some ⟨mb, 0, none⟩)
  | 8, v => v = .pointer (some ⟨mb, 0, none⟩)
  | 9, v => v = .pointer (some ⟨mb, 2, none⟩)
  | 10, v => v = vm
  | 11, v => v = .pointer (some ⟨xb, 0, none⟩)
  | 12, v => v = .int .i64 e.ses
  | 13, v => v = .int .i64 e.no
  | 14, v => v = .pointer (some ⟨xb, 1, none⟩)
  | 15, v => v = .string e.path
  | 16, v => v = .int .i64 e.what
  | 17, v => v = .int .i64 e.when
  | 18, v => v = evV e
  | 21, v => v = .pointer (some ⟨mb, 0, none⟩)
  | 22, v => v = .pointer (some ⟨mb, 1, none⟩)
  | _, _ => True
/-- What has run of the region that adds an event. -/
structure JFe (wd : World) (base : Nat) (ve : Value) (Es : List Ev) (e : Ev) (b : Nat → Bool) (x : Nat → Value) (w : World) : Prop where
  pre : b 20 = false → Below wd.heap.size wd w
  g : wd.grownBy w ve.ownBlock
  r19 : b 19 = true → b 20 = false → ∃ g, x 19 = .slice (some ⟨g, 0, none⟩) 1 1 ∧ w.heap[g]? = some (.cells #[.int .i64 e.ses, .int .i64 e.no, .string e.path, .int .i64 e.what, .int .i64 e.when] 54 (0, 0))
  r20 : b 20 = true → ERow w base (x 20) (Es ++ [e]) ∧ OwnOr wd ve (x 20)
section
variable {wd w w' : World} {base : Nat} {ve : Value} {Es : List Ev} {e : Ev} {b : Nat → Bool} {x : Nat → Value}
theorem JFe.pure {i : Nat} {v : Value} (h : JFe wd base ve Es e b x w) (hi : ¬ 19 = i ∧ ¬ 20 = i) : JFe wd base ve Es e (setB b i) (setX x i v) w := by
  obtain ⟨h1, h2⟩ := hi
  refine ⟨by rw [setB_ne h2]; exact h.pre, h.g, ?_, ?_⟩
  · rw [setB_ne h1, setB_ne h2, setX_ne h1]; exact h.r19
  · rw [setB_ne h2, setX_ne h2]; exact h.r20
theorem JFe.s19 (h : JFe wd base ve Es e b x w) (hb : base ≤ wd.heap.size) : JFe wd base ve Es e (setB b 19) (setX x 19 (.slice (some ⟨w.heap.size, 0, none⟩) 1 1)) (w.alloc (.cells #[.int .i64 e.ses, .int .i64 e.no, .string e.path, .int .i64 e.what, .int .i64 e.when] 54)) := by
  have bA := (Below.refl w.heap.size w).alloc (Nat.le_refl _) (.cells #[.int .i64 e.ses, .int .i64 e.no, .string e.path, .int .i64 e.what, .int .i64 e.when] 54)
  refine ⟨?_, grownBy_trans h.g (below_grownBy bA _), ?_, ?_⟩
  · rw [setB_ne (by decide)]; intro q; exact (h.pre q).trans (bA.mono (h.pre q).size)
  · intro _ _; exact ⟨w.heap.size, setX_same _ _ _, heap_alloc_new w _⟩
  · rw [setB_ne (by decide), setX_ne (by decide)]; intro q; exact ⟨(h.r20 q).1.below bA, (h.r20 q).2⟩
theorem JFe.s20 {v : Value} (h : JFe wd base ve Es e b x w) (hb : b 20 = false) (hr : ERow w' base v (Es ++ [e])) (hg : w.grownBy w' ve.ownBlock) (ho : OwnOr w ve v) : JFe wd base ve Es e (setB b 20) (setX x 20 v) w' := by
  refine ⟨fun q => (by rw [setB_same] at q; cases q), grownBy_trans h.g hg, ?_, ?_⟩
  · rw [setB_same]; intro _ q; cases q
  · intro _; rw [setX_same]; exact ⟨hr, ho.from (h.pre hb).size⟩
end
theorem beq_dec (a b : ByteArray) : (a.toList == b.toList) = decide (a = b) := by
  by_cases h : a = b
  · subst h; simp
  · rw [decide_eq_false h, Lib.toList_data, Lib.toList_data]
    have : ¬ a.data.toList = b.data.toList := fun e => h (by
      obtain ⟨⟨x⟩⟩ := a
      obtain ⟨⟨y⟩⟩ := b
      simp at e; rw [e])
    simpa using this
set_option maxHeartbeats 16000000 in
theorem mfire_any (base mb : Nat) (vw ve vm : Value) (Ws : List Wa) (Es : List Ev) (k c : Nat) (N : Int → Option Int) (s up last : ByteArray) (what when : Int) (w : World) (h : MoW w base mb vw ve vm Ws Es k c N) (hup : ∀ W : World, Calls Tryz.prog 48 #[.string s] W fun e w' => e = .returned (.tuple #[.string up, .string last]) ∧ ∃ n, w' = W.drewN n)
    (hses : ∀ x ∈ Ws, InR x.ses) (hlw : Ws.length ≤ 1000) (hle : Es.length ≤ 50000) (hk : k < 10000000) (hw3 : what = 1 ∨ what = 2 ∨ what = 3) :
    Calls Tryz.prog 21 #[.pointer (some ⟨mb, 0, none⟩), .string s, .int .i64 what, .int .i64 when] w fun e w' => e = .returned (.tuple #[]) ∧ ∃ vw' ve' vm' k' c', MoW w' base mb vw' ve' vm' (fireW s up what Ws) (fireS s up what when Ws (Es, N)).1 k' c' (fireS s up what when Ws (Es, N)).2 ∧ k' ≤ k + Ws.length ∧ FrM w w' mb vw ve vm vw' ve' vm' := by
  obtain ⟨i1, hi1, hz1, hz2, hz3⟩ := info_parts info_ev
  obtain ⟨i2, hi2, hy1, hy2, hy3⟩ := info_parts info_wa
  obtain ⟨wa, cp, rfl, hga, _⟩ := waV_form h.ws
  have HG := Lib.hid hga
  have HH := Lib.hid h
  have HS := Lib.hid hses
  have HUP := Lib.hid hup
  have HVW : Hid (∀ g, (Value.slice wa Ws.length cp).ownBlock = some g → g < w.heap.size) := Lib.hid fun g hg => by
    obtain ⟨c1, q1, _⟩ := row_own h.ws hg
    exact (Array.getElem?_eq_some_iff.1 q1).1
  have HBW : Hid (base ≤ w.heap.size) := Lib.hid h.lo.2
  have hmb := h.lt
  clear h hup hses hga
  go_enter Tryz.func21, Tryz.ntmps21
  go_wp2_with fail
  refine (HUP.out _).mono ?_
  rintro e w1 ⟨rfl, nd, hw1⟩
  have b1 : Below w.heap.size w w1 := by rw [hw1]; exact below_drewN (Below.refl _ w) nd
  have bA := b1.alloc b1.size (.cells #[] 49)
  have RW : WRow (w1.alloc (.cells #[] 49)) w.heap.size (.slice (some ⟨w1.heap.size, 0, none⟩) 0 0) [] := World.ownsRow_made w1 #[] 0 b1.size (Nat.zero_le _) rfl
  have x0 := (HH.out.below bA).c0
  have HM0 := Lib.hid (HH.out.below bA)
  have HF0 : Hid (FrM w (w1.alloc (.cells #[] 49)) mb (.slice wa Ws.length cp) ve vm (.slice wa Ws.length cp) ve vm) := Lib.hid (FrM.low bA)
  have HR0 := Lib.hid RW
  have HSZ0 : Hid (w.heap.size ≤ (w1.alloc (.cells #[] 49)).heap.size) := Lib.hid bA.size
  clear hw1 b1 bA RW HUP
  go_wp2_with fail
  go_loopw [10, 25] (fun lv iv wr => ∃ (j k' c' : Nat) (M : List Wa) (ve' vm' : Value), j ≤ Ws.length ∧ iv = .int .i64 j ∧ k' ≤ k + j ∧ M.length ≤ j ∧ (∃ a cc, lv = .slice a M.length cc) ∧ Hid (M = fireW s up what (Ws.take j)) ∧ Hid (MoW wr base mb (.slice wa Ws.length cp) ve' vm' Ws (fireS s up what when (Ws.take j) (Es, N)).1 k' c' (fireS s up what when (Ws.take j) (Es, N)).2) ∧ Hid (WRow wr w.heap.size lv M) ∧ Hid (FrM w wr mb (.slice wa Ws.length cp) ve vm (.slice wa Ws.length cp) ve' vm')) (fun _ iv _ => Ws.length - (intOf iv).toNat)
  case atStart => exact ⟨0, k, c, [], ve, vm, by omega, rfl, by omega, by simp, ⟨_, _, rfl⟩, Lib.hid (by simp [fireW]), Lib.hid (by rw [fireS_zero]; exact HM0.out), HR0, HF0⟩
  case round =>
    obtain ⟨j, k', c', M, ve', vm', hj, rfl, hk', hML, ⟨la, lc, rfl⟩, HMM, HM, HR, HF⟩ := hrel
    clear x0 HM0 HF0 HR0 HSZ0
    by_cases hlt : j < Ws.length
    · have hlt2 : decide ((j : Int) < (Ws.length : Int)) = true := by simp; omega
      obtain ⟨x, hx⟩ : ∃ x, Ws[j]? = some x := ⟨Ws[j], by simp [hlt]⟩
      obtain ⟨g, rfl, hgw, _⟩ := HG.out (by omega)
      have hrw := HM.out.ws
      have x0 := waC0 hrw hx rfl
      have x1 := waC1 hrw hx rfl
      have x2 := waC2 hrw hx rfl
      have x3 := waC3 hrw hx rfl
      have hj0 : (0 : Int) ≤ (j : Int) := by omega
      have hji : (j : Int) < (Ws.length : Int) := by omega
      have t2 : IntKind.i64.wrap ((j : Int) + 1) = (j : Int) + 1 := IntWalk.i64_in _ (by omega)
      have HSX : Hid (InR x.ses) := Lib.hid (HS.out x (List.mem_of_getElem? hx))
      have hfs := fireS_succ (s := s) (up := up) (what := what) (when := when) (st := (Es, N)) hx
      have hfl := fireS_len (s := s) (up := up) (what := what) (when := when) (Ws.take j) (Es, N)
      have hfl2 : (fireS s up what when (Ws.take j) (Es, N)).1.length ≤ 51000 := by
        have := List.length_take_le j Ws
        simp only at hfl
        omega
      have HSN := Lib.hid (filt_snocW (p := fun x => !(trigB s up what x && x.once)) hx)
      obtain ⟨Fs, hF⟩ : ∃ Fs, Fs = fireS s up what when (Ws.take j) (Es, N) := ⟨_, rfl⟩
      rw [← hF] at HM hfs hfl2
      have HFS := Lib.hid hfs
      have HFL := Lib.hid hfl2
      clear hfs hfl hrw hx hF hfl2
      go_upto_region 5 with fail
      have NA : WaB (wr.alloc (.cells #[.int .i64 x.ses, .string x.path, .bool x.kids, .bool x.once] 49)) wr.heap.size x := heap_alloc_new wr _
      have bA := (Below.refl wr.heap.size wr).alloc (Nat.le_refl _) (.cells #[.int .i64 x.ses, .string x.path, .bool x.kids, .bool x.once] 49)
      have HSD : Hid (Side (wr.alloc (.cells #[.int .i64 x.ses, .string x.path, .bool x.kids, .bool x.once] 49)) w.heap.size wr.heap.size x (.slice la M.length lc) M) := Lib.hid ⟨NA, HR.out.below bA, HF.out.size⟩
      have HM5 := Lib.hid (HM.out.below bA)
      have HF5 := Lib.hid (HF.out.trans (FrM.low bA))
      obtain ⟨w5, hw5⟩ : ∃ w5, w5 = wr.alloc (.cells #[.int .i64 x.ses, .string x.path, .bool x.kids, .bool x.once] 49) := ⟨_, rfl⟩
      obtain ⟨xb, hxb⟩ : ∃ xb, xb = wr.heap.size := ⟨_, rfl⟩
      rw [← hw5, ← hxb] at HSD
      rw [← hw5] at HM5 HF5 ⊢
      rw [← hxb]
      clear hw5 hxb NA bA HM HR HF x0 x1 x2 x3
      obtain ⟨q0, q1, q2, q3⟩ := HSD.out.wa.cells
      obtain ⟨tk, htk⟩ : ∃ tk, tk = trigK s up what x := ⟨_, rfl⟩
      have htb : trigB s up what x = (tk != 0) := by
        rw [htk]; unfold trigB trigK
        cases (decide (x.path = s) && (!x.kids || (what == 2))) <;> cases (decide (x.path = up) && x.kids && !(what == 3)) <;> simp <;> omega
      have HTB := Lib.hid htb
      have HTK := Lib.hid htk
      clear htb
      go_cut [13] (fun v wx => v = .int .i64 0 ∧ wx = w5)
      case first =>
        go_wp2_with fail
        go_meet
        exact ⟨rfl, rfl⟩
      case rest =>
        obtain ⟨rfl, hwc⟩ := hcut
        obtain rfl := hwc.symm
        rename_i K9 a9
        refine a9 _ _ ?_
        refine wp_seq_k (fun K8 a8 => ?_)
        go_cut [13] (fun v wx => v = .int .i64 tk ∧ wx = w5)
        case first =>
          obtain ⟨q4, hq4⟩ : ∃ q4, q4 = decide (x.path = s) := ⟨_, rfl⟩
          obtain ⟨q5, hq5⟩ : ∃ q5, q5 = decide (x.path = up) := ⟨_, rfl⟩
          have e1 : (x.path.toList == s.toList) = q4 := by rw [hq4]; exact beq_dec _ _
          have e2 : (x.path.toList == up.toList) = q5 := by rw [hq5]; exact beq_dec _ _
          have HT : Hid (tk = if (q4 && (!x.kids || (what == 2))) = true then what else if (q5 && x.kids && !(what == 3)) = true then 4 else 0) := Lib.hid (by rw [htk]; unfold trigK; rw [← hq4, ← hq5])
          obtain ⟨ki, hki⟩ : ∃ ki, ki = x.kids := ⟨_, rfl⟩
          rw [← hki] at q2 HT
          clear hq4 hq5 htk hki HM5 HF5 HSD q0 q3 HTK HTB HFS HFL HSN
          rcases hw3 with rfl | rfl | rfl <;> cases q4 <;> cases ki <;> cases q5 <;> (go_wp2_with fail; go_meet; exact ⟨by rw [HT.out]; rfl, rfl⟩)
        case rest =>
          obtain ⟨rfl, hwc⟩ := hcut
          obtain rfl := hwc.symm
          clear htk
          obtain ⟨tb, htb⟩ : ∃ tb, tb = trigB s up what x := ⟨_, rfl⟩
          have e5 : (tk == 0) = !tb := by rw [htb, HTB.out]; unfold bne; rw [Bool.not_not]
          cases tb with
          | false =>
            have HF2 : Hid (fireS s up what when (Ws.take (j + 1)) (Es, N) = Fs) := Lib.hid (by rw [HFS.out]; unfold fireT; rw [if_neg (by rw [← htb]; decide)])
            have HN2 : Hid (fireW s up what (Ws.take (j + 1)) = M ++ [x]) := Lib.hid (by unfold fireW; rw [HSN.out, ← htb, HMM.out]; simp [fireW])
            clear htb
            have bR := (Below.refl w5.heap.size w5).alloc (Nat.le_refl _) (.cells #[.int .i64 x.ses, .string x.path, .bool x.kids, .bool x.once] 49)
            have HSR := Lib.hid (HSD.out.below bR)
            have HMR := Lib.hid (HM5.out.below bR)
            have HFR := Lib.hid (HF5.out.trans (FrM.low bR))
            have HCE : Hid (∀ i u, (waOne x)[i]? = some u → (w5.alloc (.cells #[.int .i64 x.ses, .string x.path, .bool x.kids, .bool x.once] 49)).cell? ((⟨w5.heap.size, 0, none⟩ : Addr).add i) = some u) := Lib.hid (fun i u hu => wa_cells x w5.heap.size _ (heap_alloc_new w5 _) i u hu)
            clear bR
            go_wp2_with (at_builtin; refine wpList_append_own _ rfl _ _ _ rfl w.heap.size 49 i2 _ 4 32 und_was hi2 hy1 hy2 hy3 rfl (by decide) (.slice la M.length lc) M.length (cellsK waOne M) rfl HSR.out.row ⟨w5.heap.size, 0, none⟩ 1 1 (waOne x) rfl rfl HCE.out (waOne_one x) (by unfold maxLen; omega) (by omega) HFR.out.size ?_; intro v8 w8 hown8 hgrow8 hiff8; go_frame)
            have R8 : WRow w8 w.heap.size v8 (M ++ [x]) := by
              unfold WRow
              rw [cellsK_append, List.length_append]
              simpa [cellsK] using hown8
            have HMz := Lib.hid (HMR.out.other hgrow8 (HMR.out.left_not HSR.out.row HVW.out))
            have HFz := Lib.hid (HFR.out.grown hgrow8 (fun q hq => (row_own HSR.out.row hq).choose_spec.2))
            obtain ⟨a8, c8, rfl, _⟩ := waV_form R8
            have HRz := Lib.hid R8
            clear hown8 hgrow8 hiff8 R8 HMR HSR HFR HCE q0 q1 q2 q3
            go_wp2_with fail
            go_roundw
            case rel => exact ⟨j + 1, k', c', M ++ [x], ve', vm', by omega, by go_num, by omega, by simp; omega, ⟨_, _, rfl⟩, Lib.hid HN2.out.symm, Lib.hid (by rw [HF2.out]; exact HMz.out), HRz, HFz⟩
            case measure => simp [intOf]; omega
          | true =>
            obtain ⟨no, hno⟩ : ∃ no, no = nextN Fs.2 x.ses := ⟨_, rfl⟩
            have HF2 : Hid (fireS s up what when (Ws.take (j + 1)) (Es, N) = (Fs.1 ++ [⟨x.ses, no, x.path, tk, when⟩], updN Fs.2 x.ses (some no))) := Lib.hid (by rw [HFS.out]; unfold fireT; rw [if_pos htb.symm, hno, HTK.out])
            have HN2 : Hid (fireW s up what (Ws.take (j + 1)) = M ++ (if x.once then [] else [x])) := Lib.hid (by unfold fireW; rw [HSN.out, ← htb, HMM.out]; simp only [Bool.true_and, fireW]; cases x.once <;> simp)
            have HNO := Lib.hid hno
            clear htb hno
            have hqm : ∀ (W : World) (p : Option Nat), (binOp .eql 30 (.map p) (.map none)).run Tryz.prog W = .ok (.bool p.isNone) W := fun W p => run_eql_map_nil_sl W _ _ _ p und_mapN
            refine a8 _ _ ?_
            refine wp_seq_k (fun K6 a6 => ?_)
            go_cut [10] (fun v wx => v = .slice la M.length lc ∧ wx = w5)
            case first =>
              go_wp2_with fail
              go_meet
              exact ⟨rfl, rfl⟩
            case rest =>
            obtain ⟨rfl, hwc⟩ := hcut
            obtain rfl := hwc.symm
            refine a6 _ _ ?_
            refine wp_seq_k (fun K4 a4 => ?_)
            go_cut [] (fun wx => ∃ (mq k2 c2 : Nat), k2 ≤ k' ∧ Hid (MoW wx base mb (.slice (some ⟨g, 0, none⟩) Ws.length cp) ve' (.map (some mq)) Ws Fs.1 k2 c2 Fs.2) ∧ Hid (FrM w wx mb (.slice (some ⟨g, 0, none⟩) Ws.length cp) ve vm (.slice (some ⟨g, 0, none⟩) Ws.length cp) ve' (.map (some mq))) ∧ Hid (Side wx w.heap.size xb x (.slice la M.length lc) M))
            case first =>
              have y2 := HM5.out.c2
              rcases HM5.out.last with ⟨hv, hN, hc0⟩ | ⟨mq, hv, hmap, hmlo⟩
              · rw [hv] at y2
                have HM6 : Hid (MoW w5 base mb (.slice (some ⟨g, 0, none⟩) Ws.length cp) ve' (.map none) Ws Fs.1 k' c' Fs.2) := Lib.hid (by rw [← hv]; exact HM5.out)
                have HF6 : Hid (FrM w w5 mb (.slice (some ⟨g, 0, none⟩) Ws.length cp) ve vm (.slice (some ⟨g, 0, none⟩) Ws.length cp) ve' (.map none)) := Lib.hid (by rw [← hv]; exact HF5.out)
                have f2 := HM6.out.frz 2
                have hmm := @run_makeMap Tryz.prog
                have hm6 := HM6.out.lt
                have HSD6 : Hid (Side ((w5.setCell ⟨mb, 2, none⟩ (.map (some w5.heap.size))).alloc (.map #[] 0)) w.heap.size xb x (.slice la M.length lc) M) := Lib.hid ((HSD.out.grown (set_grown w5 mb 2 _) (fun q cs hq hc => cells_ne hc HM6.out.box (by decide) (Option.some.inj hq).symm)).below ((Below.refl _ _).alloc (Nat.le_refl _) _))
                have HMM6 : Hid (MoW ((w5.setCell ⟨mb, 2, none⟩ (.map (some w5.heap.size))).alloc (.map #[] 0)) base mb (.slice (some ⟨g, 0, none⟩) Ws.length cp) ve' (.map (some w5.heap.size)) Ws Fs.1 0 0 Fs.2) := Lib.hid (by rw [hN]; have := HM6.out; rw [hN] at this; exact this.madeM.1)
                have HFF6 := Lib.hid (HF6.out.trans HM6.out.made_frm)
                clear hv hN hc0 HM5 HF5 HSD q0 q1 q2 q3 HM6 HF6
                go_wp2_with fail
                go_meet
                exact ⟨_, 0, 0, by omega, HMM6, HFF6, HSD6⟩
              · rw [hv] at y2
                have HM6 : Hid (MoW w5 base mb (.slice (some ⟨g, 0, none⟩) Ws.length cp) ve' (.map (some mq)) Ws Fs.1 k' c' Fs.2) := Lib.hid (by rw [← hv]; exact HM5.out)
                have HF6 : Hid (FrM w w5 mb (.slice (some ⟨g, 0, none⟩) Ws.length cp) ve vm (.slice (some ⟨g, 0, none⟩) Ws.length cp) ve' (.map (some mq))) := Lib.hid (by rw [← hv]; exact HF5.out)
                clear hv hmap hmlo HM5 HF5 q0 q1 q2 q3
                go_wp2_with fail
                go_meet
                exact ⟨mq, k', c', Nat.le_refl _, HM6, HF6, HSD⟩
            case rest =>
              obtain ⟨mq, k2, c2, hk2, HM8, HF8, HSD8⟩ := hcut
              clear HM5 HF5 HSD q0 q1 q2 q3 hqm
              go_upto_region 14 with fail
              have HMd := Lib.hid (HM8.out.below (Below.refl _ wc).drew)
              have HFd := Lib.hid (HF8.out.trans (FrM.low (Below.refl _ wc).drew))
              have HSd := Lib.hid (HSD8.out.below (Below.refl _ wc).drew)
              obtain ⟨wm, hwm⟩ : ∃ wm, wm = wc.drew := ⟨_, rfl⟩
              rw [← hwm] at HMd HFd HSd
              have HWM := Lib.hid hwm
              clear hwm HM8 HF8 HSD8
              have HVM : Hid (∃ q, (Value.map (some mq)) = .map q) := Lib.hid ⟨_, rfl⟩
              have HC2 : Hid (wm.cell? ⟨mb, 2, none⟩ = some (.map (some mq))) := Lib.hid HMd.out.c2
              have HC0 : Hid (wm.cell? ⟨xb, 0, none⟩ = some (.int .i64 x.ses)) := Lib.hid HSd.out.wa.cells.1
              have HLK := Lib.hid (look_mo HMd.out x.ses HSX.out)
              unfold nextN at HNO
              refine wp_region_inv_last 8 (IFJ (FN7 mb xb (.map (some mq)) x.ses ((Fs.2 x.ses).getD 0) no) (fun _ _ W => W = wm)) (by kernel_rfl) (by kernel_rfl) (by kernel_rfl) (by kernel_rfl) (by kernel_rfl) ?_ ?_ ?_
              · intro z
                exact ⟨fun j hj => (by cases hj), HWM.out.symm⟩
              · intro i o hi ho b z w1 hI hbi hW
                obtain rfl := hI.2
                match i, ho with
                | 0, ho =>
                  obtain rfl := Option.some.inj ho
                  exact gstep_move rfl (wanted0 rfl) _ rfl _ (eval_of 0 _ (by kernel_rfl) rfl) ⟨_, rfl, IFJ.step hI rfl rfl⟩
                | 1, ho =>
                  obtain rfl := Option.some.inj ho
                  exact gstep_nil rfl (wanted0 rfl) _ rfl _ (eval_at 70 0 _ (by kernel_rfl) (show 70 < 113 by decide) (hI.1 0 (hW 0 (by kernel_rfl)))) ⟨_, rfl, IFJ.step hI rfl rfl⟩
                | 2, ho =>
                  obtain rfl := Option.some.inj ho
                  exact gstep_field rfl (wanted0 rfl) _ _ _ rfl _ (eval_at 71 1 _ (by kernel_rfl) (show 71 < 113 by decide) (hI.1 1 (hW 1 (by kernel_rfl)))) _ (run_moF2 _ _) ⟨_, rfl, IFJ.step hI rfl rfl⟩
                | 3, ho =>
                  obtain rfl := Option.some.inj ho
                  exact gstep_load rfl (wanted0 rfl) _ _ rfl _ (eval_at 72 2 _ (by kernel_rfl) (show 72 < 113 by decide) (hI.1 2 (hW 2 (by kernel_rfl)))) _ (run_lmp _ _ _ HVM.out HC2.out) ⟨_, rfl, IFJ.step hI rfl rfl⟩
                | 4, ho =>
                  obtain rfl := Option.some.inj ho
                  exact gstep_field rfl (wanted0 rfl) _ _ _ rfl _ (eval_of 12 _ (by kernel_rfl) rfl) _ (run_fW0 _ _) ⟨_, rfl, IFJ.step hI rfl rfl⟩
                | 5, ho =>
                  obtain rfl := Option.some.inj ho
                  exact gstep_load rfl (wanted0 rfl) _ _ rfl _ (eval_at 74 4 _ (by kernel_rfl) (show 74 < 113 by decide) (hI.1 4 (hW 4 (by kernel_rfl)))) _ (run_lint _ _ _ HC0.out) ⟨_, rfl, IFJ.step hI rfl rfl⟩
                | 6, ho =>
                  obtain rfl := Option.some.inj ho
                  exact gstep_look rfl (wanted0 rfl) _ _ _ rfl _ _ (eval_at 73 3 _ (by kernel_rfl) (show 73 < 113 by decide) (hI.1 3 (hW 3 (by kernel_rfl)))) (eval_at 75 5 _ (by kernel_rfl) (show 75 < 113 by decide) (hI.1 5 (hW 5 (by kernel_rfl)))) _ HLK.out ⟨_, rfl, IFJ.step hI rfl rfl⟩
                | 7, ho =>
                  obtain rfl := Option.some.inj ho
                  exact gstep_bin rfl (wanted0 rfl) _ _ _ _ _ rfl _ _ (eval_at 76 6 _ (by kernel_rfl) (show 76 < 113 by decide) (hI.1 6 (hW 6 (by kernel_rfl)))) rfl _ (run_addN _ _ _ HNO.out.symm _ _) ⟨_, rfl, IFJ.step hI rfl rfl⟩
                | n + 8, ho => omega
              · intro o ho b z w1 hI hA
                have hw1 := hI.2
                obtain rfl := Option.some.inj ho
                have hF3 : z 3 = .map (some mq) := hI.1 3 (hA 3 (by decide))
                have hF5 : z 5 = .int .i64 x.ses := hI.1 5 (hA 5 (by decide))
                have hF7 : z 7 = .int .i64 no := hI.1 7 (hA 7 (by decide))
                rw [hw1]
                obtain ⟨w9, hrun9, hm9, hg9⟩ := HMd.out.map.store (by omega) x.ses HSX.out no
                refine gstep_mapup rfl (wanted0 rfl) _ _ _ _ rfl _ _ _ (eval_at 73 3 _ (by kernel_rfl) (show 73 < 113 by decide) hF3) (eval_at 75 5 _ (by kernel_rfl) (show 75 < 113 by decide) hF5) (eval_at 77 7 _ (by kernel_rfl) (show 77 < 113 by decide) hF7) _ hrun9 ?_
                simp only [putAll, Act.put, List.setIfInBounds_toArray, List.set_cons_succ, List.set_cons_zero]
                have hmq := HMd.out.map
                have HM9 := Lib.hid (HMd.out.turnM hg9 hm9)
                have HF9 := Lib.hid (HFd.out.trans (FrM.turn hg9 (.inr (.inr (.inr rfl)))))
                have HS9 := Lib.hid (HSd.out.grown hg9 (fun q cs hq hc => map_ne hc hmq (Option.some.inj hq).symm))
                clear hI hA hF3 hF5 hF7 hrun9 hm9 hg9 HMd HFd HSd hmq hw1 HC2 HC0 HLK
                go_upto_region 15 with fail
                have HK8 := Lib.hid (HM9.out.below (Below.refl _ w9).drew)
                have HF8 := Lib.hid (HF9.out.trans (FrM.low (Below.refl _ w9).drew))
                have HS8 := Lib.hid (HS9.out.below (Below.refl _ w9).drew)
                obtain ⟨wn, hwn⟩ : ∃ wn, wn = w9.drew := ⟨_, rfl⟩
                rw [← hwn] at HK8 HF8 HS8
                have HWN := Lib.hid hwn
                clear hwn HM9 HF9 HS9
                have HVE : Hid (∃ a n c, ve' = .slice a n c) := Lib.hid (by obtain ⟨a, cc, h1, _⟩ := evV_form HK8.out.es; exact ⟨a, _, cc, h1⟩)
                have HVM2 : Hid (∃ q, (Value.map (some mq)) = .map q) := Lib.hid ⟨_, rfl⟩
                have HCE : Hid (∀ W : World, wn.grownBy W ve'.ownBlock → W.cell? ⟨mb, 1, none⟩ = some ve' ∧ W.cell? ⟨mb, 2, none⟩ = some (.map (some mq)) ∧ W.cell? ⟨xb, 0, none⟩ = some (.int .i64 x.ses) ∧ W.cell? ⟨xb, 1, none⟩ = some (.string x.path) ∧ (Instr.lookup 30 (.map (some mq)) (.int .i64 x.ses) false).run Tryz.prog W = .ok (.int .i64 no) W) := Lib.hid fun W hW => by
                  have hbx := (hW.block mb HK8.out.lt (fun e => HK8.out.ne_e e.symm rfl)).trans HK8.out.box
                  have hsd := HS8.out.grown hW (fun q cs hq hc => by
                    obtain ⟨c1, h1, _⟩ := row_own HK8.out.es hq
                    exact cells_ne hc h1 (by decide) rfl)
                  have hlk := (HK8.out.map.keep0 (hW.block mq HK8.out.map.lt (fun e => by
                    obtain ⟨c1, h1, _⟩ := row_own HK8.out.es e.symm
                    exact map_ne h1 HK8.out.map rfl))).look x.ses HSX.out
                  rw [updN_same] at hlk
                  exact ⟨by simp [World.cell?, hbx], by simp [World.cell?, hbx], hsd.wa.cells.1, hsd.wa.cells.2.1, hlk⟩
                refine wp_region_inv_last 23 (IFJ (FMf mb xb ve' (.map (some mq)) (⟨x.ses, no, x.path, tk, when⟩ : Ev)) (JFe wn base ve' Fs.1 (⟨x.ses, no, x.path, tk, when⟩ : Ev))) (by kernel_rfl) (by kernel_rfl) (by kernel_rfl) (by kernel_rfl) (by kernel_rfl) ?_ ?_ ?_
                · intro z
                  rw [← HWN.out]
                  exact ⟨fun j hj => (by cases hj), ⟨fun _ => Below.refl _ _, ⟨rfl, rfl, rfl, Nat.le_refl _, fun _ _ _ => rfl⟩, fun hj => (by cases hj), fun hj => (by cases hj)⟩⟩
                · intro i o hi ho b z w1 hI hbi hW
                  match i, ho with
                  | 0, ho =>
                    obtain rfl := Option.some.inj ho
                    exact gstep_move rfl (wanted0 rfl) _ rfl _ (eval_of 0 _ (by kernel_rfl) rfl) ⟨_, rfl, IFJ.step hI rfl (hI.2.pure (by decide))⟩
                  | 1, ho =>
                    obtain rfl := Option.some.inj ho
                    exact gstep_move rfl (wanted0 rfl) _ rfl _ (eval_of 0 _ (by kernel_rfl) rfl) ⟨_, rfl, IFJ.step hI rfl (hI.2.pure (by decide))⟩
                  | 2, ho =>
                    obtain rfl := Option.some.inj ho
                    exact gstep_nil rfl (wanted0 rfl) _ rfl _ (eval_at 79 1 _ (by kernel_rfl) (show 79 < 113 by decide) (hI.1 1 (hW 1 (by kernel_rfl)))) ⟨_, rfl, IFJ.step hI rfl (hI.2.pure (by decide))⟩
                  | 3, ho =>
                    obtain rfl := Option.some.inj ho
                    exact gstep_field rfl (wanted0 rfl) _ _ _ rfl _ (eval_at 80 2 _ (by kernel_rfl) (show 80 < 113 by decide) (hI.1 2 (hW 2 (by kernel_rfl)))) _ (run_moG1 _ _) ⟨_, rfl, IFJ.step hI rfl (hI.2.pure (by decide))⟩
                  | 4, ho =>
                    obtain rfl := Option.some.inj ho
                    exact gstep_load rfl (wanted0 rfl) _ _ rfl _ (eval_at 81 3 _ (by kernel_rfl) (show 81 < 113 by decide) (hI.1 3 (hW 3 (by kernel_rfl)))) _ (run_les _ _ _ HVE.out (HCE.out w1 hI.2.g).1) ⟨_, rfl, IFJ.step hI rfl (hI.2.pure (by decide))⟩
                  | 5, ho =>
                    obtain rfl := Option.some.inj ho
                    exact gstep_field rfl (wanted0 rfl) _ _ _ rfl _ (eval_of 12 _ (by kernel_rfl) rfl) _ (run_fW0 _ _) ⟨_, rfl, IFJ.step hI rfl (hI.2.pure (by decide))⟩
                  | 6, ho =>
                    obtain rfl := Option.some.inj ho
                    exact gstep_load rfl (wanted0 rfl) _ _ rfl _ (eval_at 83 5 _ (by kernel_rfl) (show 83 < 113 by decide) (hI.1 5 (hW 5 (by kernel_rfl)))) _ (run_lint _ _ _ (HCE.out w1 hI.2.g).2.2.1) ⟨_, rfl, IFJ.step hI rfl (hI.2.pure (by decide))⟩
                  | 7, ho =>
                    obtain rfl := Option.some.inj ho
                    exact gstep_move rfl (wanted0 rfl) _ rfl _ (eval_of 0 _ (by kernel_rfl) rfl) ⟨_, rfl, IFJ.step hI rfl (hI.2.pure (by decide))⟩
                  | 8, ho =>
                    obtain rfl := Option.some.inj ho
                    exact gstep_nil rfl (wanted0 rfl) _ rfl _ (eval_at 85 7 _ (by kernel_rfl) (show 85 < 113 by decide) (hI.1 7 (hW 7 (by kernel_rfl)))) ⟨_, rfl, IFJ.step hI rfl (hI.2.pure (by decide))⟩
                  | 9, ho =>
                    obtain rfl := Option.some.inj ho
                    exact gstep_field rfl (wanted0 rfl) _ _ _ rfl _ (eval_at 86 8 _ (by kernel_rfl) (show 86 < 113 by decide) (hI.1 8 (hW 8 (by kernel_rfl)))) _ (run_moF2 _ _) ⟨_, rfl, IFJ.step hI rfl (hI.2.pure (by decide))⟩
                  | 10, ho =>
                    obtain rfl := Option.some.inj ho
                    exact gstep_load rfl (wanted0 rfl) _ _ rfl _ (eval_at 87 9 _ (by kernel_rfl) (show 87 < 113 by decide) (hI.1 9 (hW 9 (by kernel_rfl)))) _ (run_lmp _ _ _ HVM2.out (HCE.out w1 hI.2.g).2.1) ⟨_, rfl, IFJ.step hI rfl (hI.2.pure (by decide))⟩
                  | 11, ho =>
                    obtain rfl := Option.some.inj ho
                    exact gstep_field rfl (wanted0 rfl) _ _ _ rfl _ (eval_of 12 _ (by kernel_rfl) rfl) _ (run_fW0 _ _) ⟨_, rfl, IFJ.step hI rfl (hI.2.pure (by decide))⟩
                  | 12, ho =>
                    obtain rfl := Option.some.inj ho
                    exact gstep_load rfl (wanted0 rfl) _ _ rfl _ (eval_at 89 11 _ (by kernel_rfl) (show 89 < 113 by decide) (hI.1 11 (hW 11 (by kernel_rfl)))) _ (run_lint _ _ _ (HCE.out w1 hI.2.g).2.2.1) ⟨_, rfl, IFJ.step hI rfl (hI.2.pure (by decide))⟩
                  | 13, ho =>
                    obtain rfl := Option.some.inj ho
                    exact gstep_look rfl (wanted0 rfl) _ _ _ rfl _ _ (eval_at 88 10 _ (by kernel_rfl) (show 88 < 113 by decide) (hI.1 10 (hW 10 (by kernel_rfl)))) (eval_at 90 12 _ (by kernel_rfl) (show 90 < 113 by decide) (hI.1 12 (hW 12 (by kernel_rfl)))) _ (HCE.out w1 hI.2.g).2.2.2.2 ⟨_, rfl, IFJ.step hI rfl (hI.2.pure (by decide))⟩
                  | 14, ho =>
                    obtain rfl := Option.some.inj ho
                    exact gstep_field rfl (wanted0 rfl) _ _ _ rfl _ (eval_of 12 _ (by kernel_rfl) rfl) _ (run_fW1 _ _) ⟨_, rfl, IFJ.step hI rfl (hI.2.pure (by decide))⟩
                  | 15, ho =>
                    obtain rfl := Option.some.inj ho
                    exact gstep_load rfl (wanted0 rfl) _ _ rfl _ (eval_at 92 14 _ (by kernel_rfl) (show 92 < 113 by decide) (hI.1 14 (hW 14 (by kernel_rfl)))) _ (run_lstr _ _ _ (HCE.out w1 hI.2.g).2.2.2.1) ⟨_, rfl, IFJ.step hI rfl (hI.2.pure (by decide))⟩
                  | 16, ho =>
                    obtain rfl := Option.some.inj ho
                    exact gstep_move rfl (wanted0 rfl) _ rfl _ (eval_of 13 _ (by kernel_rfl) rfl) ⟨_, rfl, IFJ.step hI rfl (hI.2.pure (by decide))⟩
                  | 17, ho =>
                    obtain rfl := Option.some.inj ho
                    exact gstep_move rfl (wanted0 rfl) _ rfl _ (eval_of 3 _ (by kernel_rfl) rfl) ⟨_, rfl, IFJ.step hI rfl (hI.2.pure (by decide))⟩
                  | 18, ho =>
                    obtain rfl := Option.some.inj ho
                    exact gstep_build5 rfl (wanted0 rfl) _ _ _ _ _ _ _ _ _ _ _ rfl _ _ _ _ _ (eval_at 84 6 _ (by kernel_rfl) (show 84 < 113 by decide) (hI.1 6 (hW 6 (by kernel_rfl)))) (eval_at 91 13 _ (by kernel_rfl) (show 91 < 113 by decide) (hI.1 13 (hW 13 (by kernel_rfl)))) (eval_at 93 15 _ (by kernel_rfl) (show 93 < 113 by decide) (hI.1 15 (hW 15 (by kernel_rfl)))) (eval_at 94 16 _ (by kernel_rfl) (show 94 < 113 by decide) (hI.1 16 (hW 16 (by kernel_rfl)))) (eval_at 95 17 _ (by kernel_rfl) (show 95 < 113 by decide) (hI.1 17 (hW 17 (by kernel_rfl)))) _ (run_bEv _ (⟨x.ses, no, x.path, tk, when⟩ : Ev)) ⟨_, rfl, IFJ.step hI rfl (hI.2.pure (by decide))⟩
                  | 19, ho =>
                    obtain rfl := Option.some.inj ho
                    exact gstep_row1 rfl (wanted0 rfl) _ _ rfl _ (eval_at 96 18 _ (by kernel_rfl) (show 96 < 113 by decide) (hI.1 18 (hW 18 (by kernel_rfl)))) _ _ (run_rowE _ (⟨x.ses, no, x.path, tk, when⟩ : Ev)) ⟨_, rfl, IFJ.step hI trivial (hI.2.s19 HK8.out.lo.2)⟩
                  | 20, ho =>
                    obtain rfl := Option.some.inj ho
                    obtain ⟨gb, hx19, hblk⟩ := hI.2.r19 (hW 19 (by kernel_rfl)) hbi
                    have hown := HK8.out.es.below (hI.2.pre hbi)
                    refine gstep_append_at rfl (wanted0 rfl) _ _ _ rfl base 54 i1 _ 5 48 und_evs hi1 hz1 hz2 hz3 rfl (by decide) ve' Fs.1.length (cellsK evOne Fs.1) (eval_at 82 4 _ (by kernel_rfl) (show 82 < 113 by decide) (hI.1 4 (hW 4 (by kernel_rfl)))) hown ⟨gb, 0, none⟩ 1 1 (evOne (⟨x.ses, no, x.path, tk, when⟩ : Ev)) (eval_at 97 19 _ (by kernel_rfl) (show 97 < 113 by decide) hx19) rfl (fun i u hu => ev_cells (⟨x.ses, no, x.path, tk, when⟩ : Ev) gb w1 hblk i u hu) (evOne_one (⟨x.ses, no, x.path, tk, when⟩ : Ev)) (by have := HFL.out; unfold maxLen; omega) (by have := HFL.out; omega) (Nat.le_trans HK8.out.lo.2 (hI.2.pre hbi).size) ?_
                    intro v8 w8 hown8 hgrow8 hat8
                    refine ⟨_, rfl, IFJ.step hI trivial (hI.2.s20 hbi ?_ hgrow8 (OwnOr.at hat8))⟩
                    unfold ERow
                    rw [cellsK_append, List.length_append]
                    simpa [cellsK] using hown8
                  | 21, ho =>
                    obtain rfl := Option.some.inj ho
                    exact gstep_nil rfl (wanted0 rfl) _ rfl _ (eval_at 78 0 _ (by kernel_rfl) (show 78 < 113 by decide) (hI.1 0 (hW 0 (by kernel_rfl)))) ⟨_, rfl, IFJ.step hI rfl (hI.2.pure (by decide))⟩
                  | 22, ho =>
                    obtain rfl := Option.some.inj ho
                    exact gstep_field rfl (wanted0 rfl) _ _ _ rfl _ (eval_at 99 21 _ (by kernel_rfl) (show 99 < 113 by decide) (hI.1 21 (hW 21 (by kernel_rfl)))) _ (run_moG1 _ _) ⟨_, rfl, IFJ.step hI rfl (hI.2.pure (by decide))⟩
                  | n + 23, ho => omega
                · intro o ho b z w1 hI hA
                  obtain rfl := Option.some.inj ho
                  have hF22 : z 22 = .pointer (some ⟨mb, 1, none⟩) := hI.1 22 (hA 22 (by decide))
                  obtain ⟨hrow, hoo⟩ := hI.2.r20 (hA 20 (by decide))
                  have hgr := hI.2.g
                  obtain ⟨a9, c9, hF20, _, _⟩ := evV_form hrow
                  have hbk := HK8.out.turnE hgr hrow
                  have hfk := HF8.out.stepE hgr hoo
                  have hbox : w1.heap[mb]? = some (.cells #[.slice (some ⟨g, 0, none⟩) Ws.length cp, ve', .map (some mq)] 32 (0, 0)) := (hgr.block mb HK8.out.lt (fun e => HK8.out.ne_e e.symm rfl)).trans HK8.out.box
                  have hsd := (HS8.out.grown hgr (fun q cs hq hc => by
                    obtain ⟨c1, h1, _⟩ := row_own HK8.out.es hq
                    exact cells_ne hc h1 (by decide) rfl)).grown (set_grown w1 mb 1 (z 20)) (fun q cs hq hc => cells_ne hc hbox (by decide) (Option.some.inj hq).symm)
                  have hcell : w1.cell? ⟨mb, 1, none⟩ = some ve' := by simp [World.cell?, hbox]
                  have hfrz : w1.frozen? ⟨mb, 1, none⟩ = false := by simp [World.frozen?, hbox]
                  obtain ⟨nl, hnl⟩ : ∃ nl, nl = (Fs.1 ++ [(⟨x.ses, no, x.path, tk, when⟩ : Ev)]).length := ⟨_, rfl⟩
                  rw [← hnl] at hF20
                  rw [hF20] at hbk hfk hsd
                  refine gstep_store rfl (wanted0 rfl) _ _ _ rfl _ _ (eval_at 100 22 _ (by kernel_rfl) (show 100 < 113 by decide) hF22) (eval_at 98 20 _ (by kernel_rfl) (show 98 < 113 by decide) hF20) _ (run_storeEs w1 _ _ _ _ _ hcell hfrz) ?_
                  simp only [putAll, Act.put, List.setIfInBounds_toArray, List.set_cons_succ, List.set_cons_zero]
                  obtain ⟨w10, hw10⟩ : ∃ w10, w10 = w1.setCell ⟨mb, 1, none⟩ (.slice a9 nl c9) := ⟨_, rfl⟩
                  rw [← hw10] at hbk hfk hsd ⊢
                  have HM10 := Lib.hid hbk
                  have HF10 := Lib.hid hfk
                  have HS10 := Lib.hid hsd
                  obtain ⟨q0, q1, q2, q3⟩ := HS10.out.wa.cells
                  clear hI hA hrow hoo hgr hF20 hbk hfk hsd hbox hcell hfrz hnl hw10 hF22 HK8 HF8 HS8 HCE
                  cases hon : x.once with
                  | true =>
                    rw [hon] at q3
                    have HN3 : Hid (fireW s up what (Ws.take (j + 1)) = M) := Lib.hid (by rw [HN2.out, hon]; simp)
                    clear hon
                    go_wp2_with fail
                    go_roundw
                    case rel => exact ⟨j + 1, k2 + 1, _, M, _, .map (some mq), by omega, by go_num, by omega, by omega, ⟨_, _, rfl⟩, Lib.hid HN3.out.symm, Lib.hid (by rw [HF2.out]; exact HM10.out), Lib.hid HS10.out.row, HF10⟩
                    case measure => simp [intOf]; omega
                  | false =>
                    rw [hon] at q3
                    have HN3 : Hid (fireW s up what (Ws.take (j + 1)) = M ++ [x]) := Lib.hid (by rw [HN2.out, hon]; simp)
                    have HON := Lib.hid hon
                    clear hon
                    have bR := (Below.refl w10.heap.size w10).alloc (Nat.le_refl _) (.cells #[.int .i64 x.ses, .string x.path, .bool x.kids, .bool false] 49)
                    have HSR := Lib.hid (HS10.out.below bR)
                    have HMR := Lib.hid (HM10.out.below bR)
                    have HFR := Lib.hid (HF10.out.trans (FrM.low bR))
                    have HCE : Hid (∀ i u, (waOne x)[i]? = some u → (w10.alloc (.cells #[.int .i64 x.ses, .string x.path, .bool x.kids, .bool false] 49)).cell? ((⟨w10.heap.size, 0, none⟩ : Addr).add i) = some u) := Lib.hid (fun i u hu => wa_cells x w10.heap.size _ (by have h9 := heap_alloc_new w10 (.cells #[.int .i64 x.ses, .string x.path, .bool x.kids, .bool false] 49); rw [HON.out]; exact h9) i u hu)
                    clear bR
                    go_wp2_with (at_builtin; refine wpList_append_own _ rfl _ _ _ rfl w.heap.size 49 i2 _ 4 32 und_was hi2 hy1 hy2 hy3 rfl (by decide) (.slice la M.length lc) M.length (cellsK waOne M) rfl HSR.out.row ⟨w10.heap.size, 0, none⟩ 1 1 (waOne x) rfl rfl HCE.out (waOne_one x) (by unfold maxLen; omega) (by omega) HFR.out.size ?_; intro v8 w8 hown8 hgrow8 hiff8; go_frame)
                    have R8 : WRow w8 w.heap.size v8 (M ++ [x]) := by
                      unfold WRow
                      rw [cellsK_append, List.length_append]
                      simpa [cellsK] using hown8
                    have HMz := Lib.hid (HMR.out.other hgrow8 (HMR.out.left_not HSR.out.row HVW.out))
                    have HFz := Lib.hid (HFR.out.grown hgrow8 (fun q hq => (row_own HSR.out.row hq).choose_spec.2))
                    obtain ⟨a8, c8, rfl, _⟩ := waV_form R8
                    have HRz := Lib.hid R8
                    clear hown8 hgrow8 hiff8 R8 HMR HSR HFR HCE q0 q1 q2 q3
                    go_wp2_with fail
                    go_roundw
                    case rel => exact ⟨j + 1, k2 + 1, _, M ++ [x], _, .map (some mq), by omega, by go_num, by omega, by simp; omega, ⟨_, _, rfl⟩, Lib.hid HN3.out.symm, Lib.hid (by rw [HF2.out]; exact HMz.out), HRz, HFz⟩
                    case measure => simp [intOf]; omega
    · obtain rfl : j = Ws.length := by omega
      have hlt2 : decide ((Ws.length : Int) < (Ws.length : Int)) = false := by simp
      rw [List.take_length] at HM HMM
      have x9 := HM.out.c0
      have f9 := HM.out.frz 0
      have HK := Lib.hid (HM.out.turn (v' := .slice la M.length lc) (L' := M) (⟨rfl, rfl, rfl, Nat.le_refl _, fun _ _ _ => rfl⟩) (ownsRow_less HR.out HBW.out))
      have HFR := Lib.hid (HF.out.putW (v' := .slice la M.length lc) (fun b hb => (row_own HR.out hb).choose_spec.2))
      clear HM HR HF
      go_wp2_with fail
      go_end0
      rw [← HMM.out]
      exact ⟨rfl, _, _, _, _, _, HK.out, hk', HFR.out⟩
end Go.Proofs.YtbbdokfankgllaaGreatDoor
