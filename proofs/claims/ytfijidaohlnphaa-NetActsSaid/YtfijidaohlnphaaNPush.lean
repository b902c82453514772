/- A transit's Push: one flight more. No conditions beyond those in each statement. -/
import Derived.Test.YtfijidaohlnphaaNPop
namespace Go.Proofs.Ytfijidaohlnphaa
open Go.RowKit
set_option linter.unusedVariables false
set_option linter.unusedSimpArgs false
set_option maxRecDepth 100000

section
variable {P : Program} {Q : Exit → Act → World → Prop} {l : List Oper}
theorem gstep_tassert {i : Nat} {o : Oper} {a : Act} {w : World} {K : Act → World → Prop} (ho : l[i]? = some o) (hw : WantedIs l a o true) (x : Operand) (xt t : TypeId) (hop : o.op = .typeAssert x xt t false) (v : Value) (he : a.eval x = v) (v' : Value)
    (hr : (Instr.typeAssert v xt t false).run P w = .ok v' w) (h : K (a.put o.dst v') w) : Step P l Q i K a w :=
  gstep_value ho hw v' w (by simp only [execOp, hop, he, Sem.run_bind, Sem.run_pure, hr, Result.andThen_ok]) h
theorem gstep_appT {i : Nat} {o : Oper} {a : Act} {w : World} {K : Act → World → Prop} (ho : l[i]? = some o) (hw : WantedIs l a o true) (s y : Operand) (t : TypeId) (hop : o.op = .call { callee := .builtin .append, args := #[s, y], argTypes := #[t, t] })
    (v u : Value) (he : a.eval s = v) (hx : a.eval y = u) (v' : Value) (w' : World) (hr : (Builtin.append_ #[t, t] o.type #[v, u]).run P w = .ok v' w') (h : K (a.put o.dst v') w') : Step P l Q i K a w :=
  gstep_value ho hw v' w' (by simp only [execOp, hop, resolve, invoke, builtin, Sem.run_bind, Sem.run_pure, Result.andThen_ok, List.map_toArray, List.map_cons, List.map_nil, he, hx, hr]) h
end
theorem run_ta (W : World) (f : Fl) : (Instr.typeAssert (.iface 55 f.ptr) 20 55 false).run Try.prog W = .ok f.ptr W := by
  unfold Fl.ptr; kernel_rfl
theorem run_bs (W : World) (f : Fl) : (Instr.buildSlice 26 1 #[(0, f.ptr)]).run Try.prog W = .ok (.slice (some ⟨W.heap.size, 0, none⟩) 1 1) (W.alloc (.cells #[f.ptr] 55)) := by
  unfold Fl.ptr; go_simp
theorem run_lt (W : World) (nb : Nat) (v : Value) (h : W.cell? ⟨nb, 2, none⟩ = some v) (hv : ∃ a n c, v = .slice a n c) : (Instr.loadAt 26 (.pointer (some ⟨nb, 2, none⟩))).run Try.prog W = .ok v W := by
  obtain ⟨a, n, c, rfl⟩ := hv
  go_simp
theorem run_st (W : World) (nb : Nat) (v u : Value) (h : W.cell? ⟨nb, 2, none⟩ = some u) (hf : W.frozen? ⟨nb, 2, none⟩ = false) (hv : ∃ a n c, v = .slice a n c) : (Instr.storeAt 26 (.pointer (some ⟨nb, 2, none⟩)) v).run Try.prog W = .ok () (W.setCell ⟨nb, 2, none⟩ v) := by
  obtain ⟨a, n, c, rfl⟩ := hv
  go_simp
/-- What has run of Push's operations. -/
def FPu (nb h0 : Nat) (v0 : Value) (f : Fl) : Nat → Value → Prop
  | 0, x | 1, x | 2, x | 8, x => x = .pointer (some ⟨nb, 2, none⟩)
  | 3, x => x = v0
  | 4, x => x = .iface 55 f.ptr
  | 5, x => x = f.ptr
  | 6, x => x = .slice (some ⟨h0, 0, none⟩) 1 1
  | _, _ => True
structure JPu (w0 : World) (base : Nat) (v0 : Value) (L : List Fl) (f : Fl) (b : Nat → Bool) (x : Nat → Value) (w : World) : Prop where
  st : (b 6 = false ∧ b 7 = false ∧ w = w0) ∨ (b 6 = true ∧ b 7 = false ∧ w = w0.alloc (.cells #[f.ptr] 55)) ∨
    (b 7 = true ∧ b 6 = true ∧ b 3 = true ∧ NRow w base (x 7) (L ++ [f]) ∧ ((x 7).ownBlock = v0.ownBlock ∨ ∃ q, (x 7).ownBlock = some q ∧ w0.heap.size ≤ q) ∧ w0.grownBy w v0.ownBlock)
section
variable {w0 w : World} {base nb : Nat} {now sent : Int} {v0 : Value} {L : List Fl} {f : Fl} {b : Nat → Bool} {x : Nat → Value}
theorem JPu.pure (h : JPu w0 base v0 L f b x w) {k : Nat} {v : Value} (h6 : k ≠ 6) (h7 : k ≠ 7) : JPu w0 base v0 L f (setB b k) (setX x k v) w := by
  refine ⟨?_⟩
  rw [setB_ne (Ne.symm h6), setB_ne (Ne.symm h7), setX_ne (Ne.symm h7)]
  rcases h.st with h1 | h1 | ⟨h1, h2, h3, h4⟩
  · exact .inl h1
  · exact .inr (.inl h1)
  · exact .inr (.inr ⟨h1, h2, setB_up h3, h4⟩)
theorem JPu.first6 (h : JPu w0 base v0 L f b x w) (hb : b 6 = false) : Value.slice (some ⟨w.heap.size, 0, none⟩) 1 1 = .slice (some ⟨w0.heap.size, 0, none⟩) 1 1 := by
  rcases h.st with ⟨_, _, rfl⟩ | ⟨h1, _⟩ | ⟨_, h1, _⟩
  · rfl
  · rw [hb] at h1; cases h1
  · rw [hb] at h1; cases h1
theorem JPu.made (h : JPu w0 base v0 L f b x w) (hb : b 6 = false) {v : Value} : JPu w0 base v0 L f (setB b 6) (setX x 6 v) (w.alloc (.cells #[f.ptr] 55)) := by
  rcases h.st with ⟨_, h7, rfl⟩ | ⟨h1, _⟩ | ⟨_, h1, _⟩
  · exact ⟨.inr (.inl ⟨setB_same _ _, by rw [setB_ne (by decide)]; exact h7, rfl⟩)⟩
  · rw [hb] at h1; cases h1
  · rw [hb] at h1; cases h1
theorem JPu.box (h : JPu w0 base v0 L f b x w) (hn : NBx w0 nb now sent v0) {k : Nat} (hk : k = 3) (hb : b k = false) : NBx w nb now sent v0 := by
  subst hk
  rcases h.st with ⟨_, h7, rfl⟩ | ⟨_, _, rfl⟩ | ⟨_, _, h1, _⟩
  · exact hn
  · exact hn.same (heap_alloc_old w0 _ hn.lt)
  · rw [hb] at h1; cases h1
theorem JPu.app (h : JPu w0 base v0 L f b x w) (hr : NRow w0 base v0 L) (hl : L.length < 2000) (hb : base ≤ w0.heap.size) (hf : FlB w0 f) (h7 : b 7 = false) (h6 : b 6 = true) (h3 : b 3 = true) (_ : Nat) :
    w = w0.alloc (.cells #[f.ptr] 55) ∧ ∃ v' w', (∀ ty, ty = 26 → (Builtin.append_ #[26, 26] ty #[v0, .slice (some ⟨w0.heap.size, 0, none⟩) 1 1]).run Try.prog w = .ok v' w') ∧ ∀ x, JPu w0 base v0 L f (setB b 7) (setX x 7 v') w' := by
  rcases h.st with ⟨h1, _⟩ | ⟨_, _, rfl⟩ | ⟨h1, _⟩
  · rw [h6] at h1; cases h1
  · refine ⟨rfl, ?_⟩
    have hr1 : NRow (w0.alloc (.cells #[f.ptr] 55)) base v0 L := ⟨hr.1, fun y hy => (hr.2.1 y hy).same (heap_alloc_old w0 _ (hr.2.1 y hy).lt), hr.2.2.imp id fun ⟨g, c, cur, e, hg⟩ => ⟨g, c, cur, e, hg.same (heap_alloc_old w0 _ hg.lt)⟩⟩
    obtain ⟨v', w', e1, e2, e3, e4⟩ := nrow_push hr1 hl (by simp; omega) f (hf.same (heap_alloc_old w0 _ hf.lt)) ⟨w0.heap.size, 0, none⟩ (cells_new (j := 0) rfl) 1 26
    refine ⟨v', w', (fun ty e => by rw [e]; exact e1), fun x => ⟨.inr (.inr ⟨setB_same _ _, setB_up h6, setB_up h3, ?_, ?_, ?_⟩)⟩⟩
    · rw [setX_same]; exact e2
    · rw [setX_same]
      rcases e4 with e4 | e4
      · exact .inl e4
      · exact .inr ⟨_, e4, by simp⟩
    · exact ⟨e3.os, e3.tape, e3.output, Nat.le_trans (by simp) e3.size, fun k hk hne => (e3.block k (by simp; omega) hne).trans (heap_alloc_old w0 _ hk)⟩
  · rw [h7] at h1; cases h1
theorem JPu.done (h : JPu w0 base v0 L f b x w) (h7 : b 7 = true) : NRow w base (x 7) (L ++ [f]) ∧ ((x 7).ownBlock = v0.ownBlock ∨ ∃ q, (x 7).ownBlock = some q ∧ w0.heap.size ≤ q) ∧ w0.grownBy w v0.ownBlock := by
  rcases h.st with ⟨_, h1, _⟩ | ⟨_, h1, _⟩ | ⟨_, _, _, h4⟩
  · rw [h7] at h1; cases h1
  · rw [h7] at h1; cases h1
  · exact h4
theorem FrN.undrew {r : Option Nat} {w w' : World} (h : FrN nb r w.drew w') : FrN nb r w w' := ⟨h.os, h.tape, h.output, h.size, h.block⟩
theorem NRow.same (h : NRow w base v0 L) {w' : World} (hf : ∀ y ∈ L, w'.heap[y.p]? = w.heap[y.p]?) (hg : ∀ g, v0.ownBlock = some g → w'.heap[g]? = w.heap[g]?) : NRow w' base v0 L :=
  ⟨h.1, fun y hy => (h.2.1 y hy).same (hf y hy), h.2.2.imp id fun ⟨g, c, cur, e, hr⟩ => ⟨g, c, cur, e, hr.same (hg g (by rw [e]; rfl))⟩⟩
end
set_option maxHeartbeats 4000000 in
theorem tpush_any {w : World} {base nb : Nat} {now sent : Int} {v : Value} {L : List Fl} (h : NRow w base v L) (hn : NBx w nb now sent v) (hl : L.length < 2000) (hb : base ≤ w.heap.size) (f : Fl) (hf : FlB w f) :
    Calls Try.prog 43 #[.pointer (some ⟨nb, 2, none⟩), .iface 55 f.ptr] w fun e w' => e = .returned (.tuple #[]) ∧ ∃ v', NRow w' base v' (L ++ [f]) ∧ NBx w' nb now sent v' ∧ (v'.ownBlock = v.ownBlock ∨ ∃ q, v'.ownBlock = some q ∧ w.heap.size ≤ q) ∧ FrN nb v.ownBlock w w' := by
  have HR := Lib.hid (h.same (w' := w.drew) (fun _ _ => rfl) (fun _ _ => rfl))
  have HN := Lib.hid (show NBx w.drew nb now sent v from hn)
  have HL := Lib.hid hl
  have HB := Lib.hid (show base ≤ w.drew.heap.size from hb)
  have HF := Lib.hid (show FlB w.drew f from hf)
  have HV : Hid (∃ a n c, v = .slice a n c) := Lib.hid (by obtain ⟨a, c, e, _⟩ := h.form; exact ⟨a, _, c, e⟩)
  clear h hn hl hb hf
  go_enter Try.func43, Try.ntmps43
  go_wp2_with fail
  refine wp_region_inv_last 9 (IFJ (FPu nb w.drew.heap.size v f) (JPu w.drew base v L f)) (by kernel_rfl) (by kernel_rfl) (by kernel_rfl) (by kernel_rfl) (by kernel_rfl) ?_ ?_ ?_
  · intro x
    exact ⟨fun j hj => (by cases hj), ⟨.inl ⟨rfl, rfl, rfl⟩⟩⟩
  · intro k o hk ho b x w1 hI hbi hW
    match k, ho with
      | 0, ho =>
        obtain rfl := Option.some.inj ho
        exact gstep_move rfl (wanted0 rfl) _ rfl _ (eval_of 0 _ (by kernel_rfl) rfl) ⟨_, rfl, IFJ.step hI rfl (hI.2.pure (by decide) (by decide))⟩
      | 1, ho =>
        obtain rfl := Option.some.inj ho
        exact gstep_move rfl (wanted0 rfl) _ rfl _ (eval_of 0 _ (by kernel_rfl) rfl) ⟨_, rfl, IFJ.step hI rfl (hI.2.pure (by decide) (by decide))⟩
      | 2, ho =>
        obtain rfl := Option.some.inj ho
        exact gstep_nil rfl (wanted0 rfl) _ rfl _ (eval_at 5 1 _ (by kernel_rfl) (show 5 < 13 by decide) (hI.1 1 (hW 1 (by kernel_rfl)))) ⟨_, rfl, IFJ.step hI rfl (hI.2.pure (by decide) (by decide))⟩
      | 3, ho =>
        obtain rfl := Option.some.inj ho
        exact gstep_load rfl (wanted0 rfl) _ _ rfl _ (eval_at 6 2 _ (by kernel_rfl) (show 6 < 13 by decide) (hI.1 2 (hW 2 (by kernel_rfl)))) _ (run_lt _ _ _ ((hI.2.box HN.out (by decide) hbi).c2) HV.out) ⟨_, rfl, IFJ.step hI rfl (hI.2.pure (by decide) (by decide))⟩
      | 4, ho =>
        obtain rfl := Option.some.inj ho
        exact gstep_move rfl (wanted0 rfl) _ rfl _ (eval_of 1 _ (by kernel_rfl) rfl) ⟨_, rfl, IFJ.step hI rfl (hI.2.pure (by decide) (by decide))⟩
      | 5, ho =>
        obtain rfl := Option.some.inj ho
        exact gstep_tassert rfl (wanted0 rfl) _ _ _ rfl _ (eval_at 8 4 _ (by kernel_rfl) (show 8 < 13 by decide) (hI.1 4 (hW 4 (by kernel_rfl)))) _ (run_ta w1 _) ⟨_, rfl, IFJ.step hI rfl (hI.2.pure (by decide) (by decide))⟩
      | 6, ho =>
        obtain rfl := Option.some.inj ho
        exact gstep_row1 rfl (wanted0 rfl) _ _ rfl _ (eval_at 9 5 _ (by kernel_rfl) (show 9 < 13 by decide) (hI.1 5 (hW 5 (by kernel_rfl)))) _ _ (run_bs w1 _) ⟨_, rfl, IFJ.step hI (hI.2.first6 hbi) (hI.2.made hbi)⟩
      | 7, ho =>
        obtain rfl := Option.some.inj ho
        obtain ⟨hw, v', w2, hrun, hj⟩ := hI.2.app HR.out HL.out HB.out HF.out hbi (hW 6 (by kernel_rfl)) (hW 3 (by kernel_rfl)) 0
        exact gstep_appT rfl (wanted0 rfl) _ _ _ rfl _ _ (eval_at 7 3 _ (by kernel_rfl) (show 7 < 13 by decide) (hI.1 3 (hW 3 (by kernel_rfl)))) (eval_at 10 6 _ (by kernel_rfl) (show 10 < 13 by decide) (hI.1 6 (hW 6 (by kernel_rfl)))) _ _ (hrun _ rfl) ⟨_, rfl, IFJ.step hI trivial (hj x)⟩
      | 8, ho =>
        obtain rfl := Option.some.inj ho
        exact gstep_nil rfl (wanted0 rfl) _ rfl _ (eval_at 4 0 _ (by kernel_rfl) (show 4 < 13 by decide) (hI.1 0 (hW 0 (by kernel_rfl)))) ⟨_, rfl, IFJ.step hI rfl (hI.2.pure (by decide) (by decide))⟩
      | n + 9, ho => omega
  · intro o ho b x w1 hI hA
    obtain rfl := Option.some.inj ho
    have hF8 : x 8 = .pointer (some ⟨nb, 2, none⟩) := hI.1 8 (hA 8 (by decide))
    obtain ⟨d1, d2, d3⟩ := hI.2.done (hA 7 (by decide))
    obtain ⟨v', hv'⟩ : ∃ v', x 7 = v' := ⟨_, rfl⟩
    rw [hv'] at d1 d2
    have hn1 : NBx w1 nb now sent v := HN.out.same (d3.block nb HN.out.lt fun e => by
      obtain ⟨_, _, cs, hcs⟩ := HR.out.own e.symm
      exact HN.out.ne_row hcs rfl)
    have hsl : ∃ a n c, v' = .slice a n c := by obtain ⟨a, c, e, _⟩ := d1.form; exact ⟨a, _, c, e⟩
    refine gstep_store rfl (wanted0 rfl) _ _ _ rfl _ _ (eval_at 12 8 _ (by kernel_rfl) (show 12 < 13 by decide) hF8) (eval_at 11 7 _ (by kernel_rfl) (show 11 < 13 by decide) hv') _ (run_st w1 nb v' v hn1.c2 (hn1.fz 2) hsl) ?_
    refine bodyPost_end (results_none rfl _ _ _) rfl ?_
    refine ⟨rfl, v', ?_, hn1.set2 v', d2, FrN.undrew (FrN.of_grown (nb := nb) d3).set⟩
    refine d1.same (fun y hy => Below.heap_setCell _ ⟨nb, 2, none⟩ _ _ (Ne.symm (hn1.ne_fl (d1.2.1 y hy)))) (fun g hg => Below.heap_setCell _ ⟨nb, 2, none⟩ _ _ ?_)
    obtain ⟨_, _, cs, hcs⟩ := d1.own hg
    exact Ne.symm (hn1.ne_row hcs)
end Go.Proofs.Ytfijidaohlnphaa
