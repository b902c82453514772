/- What Send needs: messages in a list, flights built of them; Now, Len, Pass, Clear. No conditions beyond those in each statement. -/
import Derived.Test.YtfijidaohlnphaaNNext
namespace Go.Proofs.Ytfijidaohlnphaa
open Go.RowKit
set_option linter.unusedVariables false
set_option linter.unusedSimpArgs false
set_option maxRecDepth 100000

/-- A message that is sent. -/
structure Mi where
  ua : Option Addr
  un : Nat
  uc : Nat
  va : Option Addr
  vn : Nat
  vc : Nat
  m : Mg
def Mi.zero : Mi := ⟨none, 0, 0, none, 0, 0, Mg.zero⟩
def Mi.u (x : Mi) : Value := .slice x.ua x.un x.uc
def Mi.v (x : Mi) : Value := .slice x.va x.vn x.vc
structure MiR (K : Nat → Prop) (w : World) (g o : Nat) (x : Mi) : Prop where
  kb : K g
  ld : ∀ W : World, W.heap[g]? = w.heap[g]? → (Instr.loadAt 41 (.pointer (some ⟨g, o, none⟩))).run Try.prog W = .ok (mgV x.u x.v x.m) W
  en : RdK 3 K w x.u x.un
  sm : RdK 1 K w x.v x.vn
  b1 : x.un * 32 ≤ 140737488355328
  b2 : x.vn * 4 ≤ 140737488355328
/-- A list of messages that can be read; all that it leads to lies in blocks of K. -/
structure MsR (K : Nat → Prop) (w : World) (lv : Value) (Ms : List Mi) : Prop where
  fm : ∃ a c, lv = .slice a Ms.length c
  at_ : ∀ j, j < Ms.length → ∃ g o, (∀ W : World, (Instr.indexAt 48 lv (.int .i64 (j : Int))).run Try.prog W = .ok (.pointer (some ⟨g, o, none⟩)) W) ∧ MiR K w g o (Ms.getD j Mi.zero)
theorem MiR.keep {K : Nat → Prop} {w w' : World} {g o : Nat} {x : Mi} (h : MiR K w g o x) (hk : ∀ b, K b → w'.heap[b]? = w.heap[b]?) : MiR K w' g o x :=
  ⟨h.kb, fun W hW => h.ld W (hW.trans (hk g h.kb)), h.en.keep hk, h.sm.keep hk, h.b1, h.b2⟩
theorem MsR.keep {K : Nat → Prop} {w w' : World} {lv : Value} {Ms : List Mi} (h : MsR K w lv Ms) (hk : ∀ b, K b → w'.heap[b]? = w.heap[b]?) : MsR K w' lv Ms :=
  ⟨h.fm, fun j hj => by obtain ⟨g, o, h1, h2⟩ := h.at_ j hj; exact ⟨g, o, h1, h2.keep hk⟩⟩
/-- A flight bears a message. -/
structure Fits (f : Fl) (x : Mi) (due no : Int) : Prop where
  due : f.due = due
  no : f.no = no
  m : f.m = x.m
  un : f.un = x.un
/-- Behind i messages that were sent. -/
def SndS (w0 w : World) (base nb : Nat) (now sent due : Int) (v0 : Value) (L : List Fl) (Ms : List Mi) (i : Nat) : Prop :=
  ∃ v M X, X.length = i ∧ (∀ j, j < i → Fits (X.getD j Fl.zero) (Ms.getD j Mi.zero) due (sent + j)) ∧ M.Perm (L ++ X) ∧ NHp w base nb now (sent + i) v M ∧ OwnN w0 v0 v ∧ FrN nb v0.ownBlock w0 w
theorem run_mk (W : World) (nb : Nat) : (Instr.makeInterface 54 (.pointer (some ⟨nb, 2, none⟩))).run Try.prog W = .ok (.iface 54 (.pointer (some ⟨nb, 2, none⟩))) W := by kernel_rfl
theorem run_mkf (W : World) (p : Nat) : (Instr.makeInterface 55 (.pointer (some ⟨p, 0, none⟩))).run Try.prog W = .ok (.iface 55 (.pointer (some ⟨p, 0, none⟩))) W := by kernel_rfl
theorem run_bld (W : World) (due no : Int) (a : Option Addr) (n c : Nat) (a2 : Option Addr) (n2 c2 : Nat) (m : Mg) : (Instr.build 58 #[(0, .int .i64 due), (1, .int .i64 no), (2, mgV (.slice a n c) (.slice a2 n2 c2) m)]).run Try.prog W = .ok (.agg (flA ⟨0, due, no, a, n, c, a2, n2, c2, m⟩)) W := by kernel_rfl
theorem run_box (W : World) (f : Fl) : (Instr.box 58 (.agg (flA f))).run Try.prog W = .ok (.pointer (some ⟨W.heap.size, 0, none⟩)) (W.alloc (.cells (flA f) 58)) := by kernel_rfl
theorem call_own (W : World) (v : Value) : (callFunc 16 #[v]).run Try.prog W = .ok (.enter 16 #[v]) W := by kernel_rfl
theorem call_hpush (W : World) (v u : Value) : (callFunc 15 #[v, u]).run Try.prog W = .ok (.enter 15 #[v, u]) W := by kernel_rfl
theorem run_fN1 (W : World) (nb : Nat) : (Instr.fieldAt 28 (.pointer (some ⟨nb, 0, none⟩)) 1).run Try.prog W = .ok (.pointer (some ⟨nb, 1, none⟩)) W := by go_simp
section
variable {P : Program} {Q : Exit → Act → World → Prop} {l : List Oper}
theorem gstep_mk {i : Nat} {o : Oper} {a : Act} {w : World} {K : Act → World → Prop} (ho : l[i]? = some o) (hw : WantedIs l a o true) (t : TypeId) (s : Operand) (hop : o.op = .makeInterface t s) (v : Value) (he : a.eval s = v) (v' : Value)
    (hr : (Instr.makeInterface t v).run P w = .ok v' w) (h : K (a.put o.dst v') w) : Step P l Q i K a w :=
  gstep_value ho hw v' w (by simp only [execOp, hop, he, Sem.run_bind, Sem.run_pure, hr, Result.andThen_ok]) h
theorem gstep_box {i : Nat} {o : Oper} {a : Act} {w : World} {K : Act → World → Prop} (ho : l[i]? = some o) (hw : WantedIs l a o true) (t : TypeId) (s : Operand) (hop : o.op = .box t s) (v : Value) (he : a.eval s = v) (v' : Value) (w' : World)
    (hr : (Instr.box t v).run P w = .ok v' w') (h : K (a.put o.dst v') w') : Step P l Q i K a w :=
  gstep_value ho hw v' w' (by simp only [execOp, hop, he, Sem.run_bind, Sem.run_pure, hr, Result.andThen_ok]) h
theorem gstep_build3 {i : Nat} {o : Oper} {a : Act} {w : World} {K : Act → World → Prop} (ho : l[i]? = some o) (hw : WantedIs l a o true) (t : TypeId) (s1 s2 s3 : Operand) (hop : o.op = .build t #[(0, s1), (1, s2), (2, s3)]) (v1 v2 v3 : Value) (he1 : a.eval s1 = v1) (he2 : a.eval s2 = v2) (he3 : a.eval s3 = v3) (v' : Value)
    (hr : (Instr.build t #[(0, v1), (1, v2), (2, v3)]).run P w = .ok v' w) (h : K (a.put o.dst v') w) : Step P l Q i K a w :=
  gstep_value ho hw v' w (by simp only [execOp, hop, List.map_toArray, List.map_cons, List.map_nil, he1, he2, he3, Sem.run_bind, Sem.run_pure, hr, Result.andThen_ok]) h
end
/-- What has run of the region that sends. -/
def FSe (nb mb : Nat) (due no : Int) (x : Mi) : Nat → Value → Prop
  | 0, y | 1, y | 5, y | 6, y => y = .pointer (some ⟨nb, 0, none⟩)
  | 2, y => y = .pointer (some ⟨nb, 2, none⟩)
  | 3, y => y = .iface 54 (.pointer (some ⟨nb, 2, none⟩))
  | 4, y => y = .int .i64 due
  | 7, y => y = .pointer (some ⟨nb, 1, none⟩)
  | 8, y => y = .int .i64 no
  | 9, y => y = mgV x.u x.v x.m
  | 10, y => ∃ a c a2 c2, y = mgV (.slice a x.un c) (.slice a2 x.vn c2) x.m
  | 11, y => ∃ a c a2 c2, y = .agg (flA ⟨0, due, no, a, x.un, c, a2, x.vn, c2, x.m⟩)
  | _, _ => True
structure JSe (w0 : World) (due no : Int) (x : Mi) (b : Nat → Bool) (z : Nat → Value) (w : World) : Prop where
  lo : Below w0.heap.size w0 w
  oo : b 11 = true → b 10 = true
  fl : b 12 = true → b 10 = true ∧ ∃ f, z 12 = f.ptr ∧ FlB w f ∧ Fits f x due no
  mi : b 13 = true → z 13 = .iface 55 (z 12) ∧ b 12 = true
section
variable {w0 w w' : World} {due no : Int} {x : Mi} {b : Nat → Bool} {z : Nat → Value} {k : Nat} {v : Value}
theorem JSe.pure (h : JSe w0 due no x b z w) (h2 : k ≠ 12) (h3 : k ≠ 13) (h4 : k = 11 → b 10 = true) : JSe w0 due no x (setB b k) (setX z k v) w := by
  refine ⟨h.lo, fun hb => ?_, fun hb => ?_, fun hb => ?_⟩
  · by_cases e : k = 11
    · exact setB_up (h4 e)
    · rw [setB_ne (Ne.symm e)] at hb
      exact setB_up (h.oo hb)
  · rw [setB_ne (Ne.symm h2)] at hb
    rw [setX_ne (Ne.symm h2)]
    exact ⟨setB_up (h.fl hb).1, (h.fl hb).2⟩
  · rw [setB_ne (Ne.symm h3)] at hb
    rw [setX_ne (Ne.symm h3), setX_ne (Ne.symm h2)]
    exact ⟨(h.mi hb).1, setB_up (h.mi hb).2⟩
theorem JSe.own (h : JSe w0 due no x b z w) (hb : b 10 = false) (hw : Below w.heap.size w w') : JSe w0 due no x (setB b 10) (setX z 10 v) w' := by
  refine ⟨h.lo.trans (hw.mono h.lo.size), fun _ => setB_same _ _, fun h2 => ?_, fun h2 => ?_⟩
  · rw [setB_ne (by decide)] at h2
    have := (h.fl h2).1
    rw [hb] at this; cases this
  · rw [setB_ne (by decide)] at h2
    have := (h.fl (h.mi h2).2).1
    rw [hb] at this; cases this
theorem JSe.boxed (h : JSe w0 due no x b z w) (hb : b 12 = false) (h11 : b 11 = true) (f : Fl) (hf : Fits f x due no) : JSe w0 due no x (setB b 12) (setX z 12 (.pointer (some ⟨w.heap.size, 0, none⟩))) (w.alloc (.cells (flA { f with p := w.heap.size }) 58)) := by
  have h10 := h.oo h11
  refine ⟨h.lo.alloc h.lo.size _, fun _ => setB_up h10, fun _ => ⟨setB_up h10, { f with p := w.heap.size }, by rw [setX_same]; rfl, heap_alloc_new w _, ⟨hf.due, hf.no, hf.m, hf.un⟩⟩, fun h2 => ?_⟩
  rw [setB_ne (by decide)] at h2
  have := (h.mi h2).2
  rw [hb] at this; cases this
theorem JSe.made (h : JSe w0 due no x b z w) (h12 : b 12 = true) (e : v = .iface 55 (z 12)) : JSe w0 due no x (setB b 13) (setX z 13 v) w := by
  refine ⟨h.lo, fun hb => ?_, fun hb => ?_, fun hb => ?_⟩
  · rw [setB_ne (by decide)] at hb; exact setB_up (h.oo hb)
  · rw [setX_ne (by decide)]; exact ⟨setB_up (h.fl h12).1, (h.fl h12).2⟩
  · rw [setX_same, setX_ne (by decide)]; exact ⟨e, setB_up h12⟩
end
set_option maxHeartbeats 4000000 in
theorem now_any {w : World} {nb : Nat} {now sent : Int} {v : Value} (h : NBx w nb now sent v) : Calls Try.prog 13 #[.pointer (some ⟨nb, 0, none⟩)] w fun e w' => e = .returned (.int .i64 now) ∧ w' = w := by
  have c0 := h.c0
  go_enter Try.func13, Try.ntmps13
  go_wp2_with fail
  go_ret
  exact ⟨rfl, rfl⟩
theorem now_nil (w : World) : Calls Try.prog 13 #[.pointer none] w fun e w' => e = .returned (.int .i64 0) ∧ w' = w := by
  go_enter Try.func13, Try.ntmps13
  go_wp2_with fail
  go_ret
  exact ⟨rfl, rfl⟩
set_option maxHeartbeats 4000000 in
theorem nlen_any {w : World} {base nb : Nat} {now sent : Int} {v : Value} {L : List Fl} (h : NHp w base nb now sent v L) : Calls Try.prog 12 #[.pointer (some ⟨nb, 0, none⟩)] w fun e w' => e = .returned (.int .i64 L.length) ∧ w' = w := by
  have c2 := h.box.c2
  obtain ⟨a, c, rfl, _⟩ := h.row.form
  have HL := Lib.hid (len_any a L.length c w)
  clear h
  go_enter Try.func12, Try.ntmps12
  go_wp2_with fail
  refine HL.out.mono ?_
  rintro e w2 ⟨rfl, rfl⟩
  go_wp2_with fail
  go_ret
  exact ⟨rfl, rfl⟩
theorem nlen_nil (w : World) : Calls Try.prog 12 #[.pointer none] w fun e w' => e = .returned (.int .i64 0) ∧ w' = w := by
  go_enter Try.func12, Try.ntmps12
  go_wp2_with fail
  go_ret
  exact ⟨rfl, rfl⟩
theorem NHp.put {w w' : World} {base nb : Nat} {now sent now' sent' : Int} {v : Value} {L : List Fl} (h : NHp w base nb now sent v L) (hb : NBx w' nb now' sent' v) (hk : ∀ b, b ≠ nb → w'.heap[b]? = w.heap[b]?) : NHp w' base nb now' sent' v L :=
  ⟨h.row.same (fun y hy => hk _ (Ne.symm (h.box.ne_fl (h.row.2.1 y hy)))) (fun g hg => by obtain ⟨_, _, cs, hcs⟩ := h.row.own hg; exact hk _ (Ne.symm (h.box.ne_row hcs))), hb, h.heap, h.low⟩
set_option maxHeartbeats 4000000 in
theorem pass_any {w : World} {base nb : Nat} {now sent : Int} {v : Value} {L : List Fl} (h : NHp w base nb now sent v L) (h0 : 0 ≤ now) (h1 : now < 4611686018427387904) : Calls Try.prog 10 #[.pointer (some ⟨nb, 0, none⟩)] w fun e w' => e = .returned (.tuple #[]) ∧ NHp w' base nb (now + 1) sent v L ∧ FrN nb v.ownBlock w w' := by
  have c0 := h.box.c0
  have f0 := h.box.fz 0
  have e1 : wrap64 (now + 1) = now + 1 := IntWalk.wrap64_in _ (by omega)
  have HH := Lib.hid h
  clear h h0 h1
  go_enter Try.func10, Try.ntmps10
  go_wp2_with fail
  refine bodyPost_end (results_none rfl _ _ _) rfl ?_
  exact ⟨rfl, HH.out.put (HH.out.box.set0 _) (fun b hb => Below.heap_setCell _ ⟨nb, 0, none⟩ _ b hb), (FrN.refl nb _ w).set⟩
theorem pass_nil (w : World) : Calls Try.prog 10 #[.pointer none] w fun e w' => e = .returned (.tuple #[]) ∧ w' = w := by
  go_enter Try.func10, Try.ntmps10
  go_wp2_with fail
  refine bodyPost_end (results_none rfl _ _ _) rfl ?_
  exact ⟨rfl, rfl⟩
set_option maxHeartbeats 4000000 in
theorem clear_any {w : World} {base nb : Nat} {now sent : Int} {v : Value} {L : List Fl} (h : NHp w base nb now sent v L) : Calls Try.prog 11 #[.pointer (some ⟨nb, 0, none⟩)] w fun e w' => e = .returned (.tuple #[]) ∧ NHp w' base nb now sent (.slice none 0 0) [] ∧ FrN nb v.ownBlock w w' := by
  have c2 := h.box.c2
  have f2 := h.box.fz 2
  have HH := Lib.hid h
  clear h
  go_enter Try.func11, Try.ntmps11
  go_wp2_with fail
  refine bodyPost_end (results_none rfl _ _ _) rfl ?_
  exact ⟨rfl, ⟨⟨Nat.zero_le _, fun f hf => (by cases hf), .inl ⟨rfl, rfl⟩⟩, HH.out.box.set2 _, fun k _ hk => absurd hk (Nat.not_lt_zero _), HH.out.low⟩, (FrN.refl nb _ w).set⟩
theorem clear_nil (w : World) : Calls Try.prog 11 #[.pointer none] w fun e w' => e = .returned (.tuple #[]) ∧ w' = w := by
  go_enter Try.func11, Try.ntmps11
  go_wp2_with fail
  refine bodyPost_end (results_none rfl _ _ _) rfl ?_
  exact ⟨rfl, rfl⟩
theorem send_nil (w : World) (d : Int) (a : Option Addr) (n c : Nat) : Calls Try.prog 8 #[.pointer none, .int .i64 d, .slice a n c] w fun e w' => e = .returned (.tuple #[]) ∧ w' = w := by
  go_enter Try.func8, Try.ntmps8
  go_wp2_with fail
  refine bodyPost_ret (results_none rfl _ _ _) rfl ?_
  exact ⟨rfl, rfl⟩
end Go.Proofs.Ytfijidaohlnphaa
