/- Law 7's 'like': has a text the length and the checksum of a chunk? And what Mend changes, beside what it leaves alone. No conditions beyond those in each statement. -/
import Derived.Test.YtiknfifiglooeaaDoorChunkP
namespace Go.Proofs.YtiknfifiglooeaaDoor
open Go Go.RowKit Go.Proofs.Tryd
set_option linter.unusedVariables false
set_option maxRecDepth 100000

theorem run_loadSs (W : World) (p : Addr) (a : Option Addr) (n c : Nat) (h : W.cell? p = some (.slice a n c)) : (Instr.loadAt 63 (.pointer (some p))).run Tryd.prog W = .ok (.slice a n c) W := by go_simp
theorem run_ixSs (W : World) (g k n c : Nat) (h : k < n) : (Instr.indexAt 63 (.slice (some ⟨g, 0, none⟩) n c) (.int .i64 (k : Int))).run Tryd.prog W = .ok (.pointer (some ⟨g, k, none⟩)) W := by
  have h1 : (k : Int) < (n : Int) := by omega
  have h0 : (0 : Int) ≤ (k : Int) := by omega
  go_simp
theorem run_remI (W : World) (x y z : Int) (h0 : y ≠ 0) (h : x.tmod y = z) (s1 s2 : Operand) : (do eqGuard .rem 3 s1 s2 (.int .i64 x) (.int .i64 y); binOp .rem 3 (.int .i64 x) (.int .i64 y) : Sem Value).run Tryd.prog W = .ok (.int .i64 z) W := by
  subst h
  have h1 : (y == 0) = false := beq_eq_false_iff_ne.2 h0
  go_simp
theorem run_eqB (W : World) (x y : Bool) (B : Bool) (h : (x == y) = B) (s1 s2 : Operand) : (do eqGuard .eql 4 s1 s2 (.bool x) (.bool y); binOp .eql 4 (.bool x) (.bool y) : Sem Value).run Tryd.prog W = .ok (.bool B) W := by
  subst h; go_simp
theorem run_cut1 (W : World) (s : ByteArray) (h : 1 ≤ s.size) : (Instr.sliceAt 9 (.string s) (some (.int .i64 1)) none none).run Tryd.prog W = .ok (.string (s.extract 1 s.size)) W := by
  have h1 : (1 : Int) ≤ (s.size : Int) := by omega
  go_simp
theorem match_like (i t : Int) (s x : ByteArray) {k : Nat} (hk : k < cutN s.size) : matchB (ofL i t s) k x = decide (x.size = (cutAt s k).size ∧ addN 0 x.data.toList = addN 0 (cutAt s k).data.toList) := by
  have h := match_cut i t s hk
  unfold matchB at h ⊢
  obtain ⟨h1, h2⟩ := of_decide_eq_true h
  rw [← h1, ← h2]
  congr 1
  apply propext
  constructor
  · rintro ⟨a, b⟩; exact ⟨by omega, by omega⟩
  · rintro ⟨a, b⟩; exact ⟨by omega, by omega⟩
section
variable {P : Program} {Q : Exit → Act → World → Prop} {l : List Oper}
theorem gstep_callC {i : Nat} {o : Oper} {a : Act} {w : World} {K : Act → World → Prop} (ho : l[i]? = some o) (hw : WantedIs l a o true) (f : FuncId) (c s : Operand) (ts : Array TypeId) (p1 p2 : Value) (hop : o.op = .call { callee := .value c, args := #[s], argTypes := ts }) (hc : a.eval c = .func (.func f) #[] #[p1, p2]) (v : Value) (he : a.eval s = v) (hf : (callFunc f #[v, p1, p2]).run P w = .ok (.enter f #[v, p1, p2]) w)
    (h : Calls P f #[v, p1, p2] w fun e w'' => ∃ v, e = .returned v ∧ K (a.put o.dst v) w'') : Step P l Q i K a w :=
  gstep_enter ho hw f #[v, p1, p2] w (by simp only [execOp, hop, resolve, invoke, Deferred.ofValue, hc, List.map_toArray, List.map_cons, List.map_nil, he, Sem.run_bind, Sem.run_pure, Result.andThen_ok]; simpa using hf) h
end
set_option maxHeartbeats 4000000 in
theorem like_any {w : World} {pb kb g N gc k : Nat} {p : ByteArray} (x : ByteArray) (hpb : w.cell? ⟨pb, 0, none⟩ = some (.slice (some ⟨g, 0, none⟩) N gc)) (hkb : w.cell? ⟨kb, 0, none⟩ = some (.int .i64 (k : Int))) (hgc : w.cell? ⟨g, k, none⟩ = some (.string p)) (hk : k < N) (hl : pb < w.heap.size ∧ kb < w.heap.size ∧ g < w.heap.size) (hx : x.size ≤ maxLen) (hp : p.size ≤ maxLen) (ht : Tabs w) :
    Calls Tryd.prog 49 #[.string x, .pointer (some ⟨pb, 0, none⟩), .pointer (some ⟨kb, 0, none⟩)] w fun e w' => e = .returned (.bool (decide (x.size = p.size ∧ addN 0 x.data.toList = addN 0 p.data.toList))) ∧ Below w.heap.size w w' := by
  have HPB := Lib.hid (fun (W : World) (hb : Below w.drew.heap.size w.drew W) => ((((Below.refl _ w).drew).trans hb).cell (p := ⟨pb, 0, none⟩) hl.1).trans hpb)
  have HKB := Lib.hid (fun (W : World) (hb : Below w.drew.heap.size w.drew W) => ((((Below.refl _ w).drew).trans hb).cell (p := ⟨kb, 0, none⟩) hl.2.1).trans hkb)
  have HGC := Lib.hid (fun (W : World) (hb : Below w.drew.heap.size w.drew W) => ((((Below.refl _ w).drew).trans hb).cell (p := ⟨g, k, none⟩) hl.2.2).trans hgc)
  have HTB := Lib.hid (fun (W : World) (hb : Below w.drew.heap.size w.drew W) => ht.below (((Below.refl _ w).drew).trans hb))
  have HBF := Lib.hid (fun (W : World) (hb : Below w.drew.heap.size w.drew W) => ((Below.refl _ w).drew).trans hb)
  have HKN := Lib.hid hk
  have HCX := Lib.hid hx
  have HCP := Lib.hid hp
  obtain ⟨zx, hzx⟩ : ∃ z : Int, ((addN 0 x.data.toList : Nat) : Int) = z := ⟨_, rfl⟩
  obtain ⟨zp, hzp⟩ : ∃ z : Int, ((addN 0 p.data.toList : Nat) : Int) = z := ⟨_, rfl⟩
  obtain ⟨Z, hZ⟩ : ∃ Z : Bool, (zx == zp) = Z := ⟨_, rfl⟩
  have HZX := Lib.hid hzx
  have HZP := Lib.hid hzp
  have HZZ := Lib.hid hZ
  by_cases hs : x.size = p.size
  · have HV : Hid (decide (x.size = p.size ∧ addN 0 x.data.toList = addN 0 p.data.toList) = Z) := by
      show _ = _
      rw [← hZ, ← hzx, ← hzp]
      by_cases h2 : addN 0 x.data.toList = addN 0 p.data.toList
      · rw [h2]; simp [hs]
      · simp [hs, h2]; omega
    have HSZ : Hid (((x.size : Int) == (p.size : Int)) = true) := by show _ = _; simp; omega
    clear hs hx hp ht hl hpb hkb hgc hk hzx hzp hZ
    go_enter Tryd.func49, Tryd.ntmps49
    go_upto_region 1 with fail
    refine wp_region_steps (atP [fun v _ => v = (.string x),
      fun v _ => v = (.int .i64 (x.size : Int)),
      fun v _ => v = (.slice (some ⟨g, 0, none⟩) N gc),
      fun v _ => v = (.int .i64 (k : Int)),
      fun v _ => v = (.pointer (some ⟨g, k, none⟩)),
      fun v _ => v = (.string p),
      fun v _ => v = (.int .i64 (p.size : Int)),
      fun v _ => v = (.bool true),
      fun v _ => v = (.bool true),
      fun v _ => v = (.string x),
      fun v W => ∃ y, v = .slice (some ⟨y, 0, none⟩) 1 1 ∧ W.heap[y]? = some (.cells #[.string x] 9 (0, 0)),
      fun v _ => v = (.int .u32 zx),
      fun v _ => v = (.slice (some ⟨g, 0, none⟩) N gc),
      fun v _ => v = (.int .i64 (k : Int)),
      fun v _ => v = (.pointer (some ⟨g, k, none⟩)),
      fun v _ => v = (.string p),
      fun v W => ∃ y, v = .slice (some ⟨y, 0, none⟩) 1 1 ∧ W.heap[y]? = some (.cells #[.string p] 9 (0, 0)),
      fun v _ => v = (.int .u32 zp),
      fun v _ => v = (.bool Z),
      fun v _ => v = (.bool Z),
      fun v _ => v = (.bool Z)]) (fun w w' => Below w.heap.size w w') (by kernel_rfl) (by kernel_rfl) (by kernel_rfl) (Below.refl _ _) (fun i v w w' _ h1 h2 => atP_keep (R := fun w w' => Below w.heap.size w w') (atK1 (fun _ _ _ h _ => h) (atK1 (fun _ _ _ h _ => h) (atK1 (fun _ _ _ h _ => h) (atK1 (fun _ _ _ h _ => h) (atK1 (fun _ _ _ h _ => h) (atK1 (fun _ _ _ h _ => h) (atK1 (fun _ _ _ h _ => h) (atK1 (fun _ _ _ h _ => h) (atK1 (fun _ _ _ h _ => h) (atK1 (fun _ _ _ h _ => h) (atK1 (fun v w w' h hr => h.elim fun y hx => ⟨y, hx.1, (hr.block y (lt_of_block hx.2)).trans hx.2⟩) (atK1 (fun _ _ _ h _ => h) (atK1 (fun _ _ _ h _ => h) (atK1 (fun _ _ _ h _ => h) (atK1 (fun _ _ _ h _ => h) (atK1 (fun _ _ _ h _ => h) (atK1 (fun v w w' h hr => h.elim fun y hx => ⟨y, hx.1, (hr.block y (lt_of_block hx.2)).trans hx.2⟩) (atK1 (fun _ _ _ h _ => h) (atK1 (fun _ _ _ h _ => h) (atK1 (fun _ _ _ h _ => h) (atK1 (fun _ _ _ h _ => h) (atK0)))))))))))))))))))))) i h1 h2) (fun u v w h1 h2 => h1.trans (h2.mono h1.size)) ?_ ?_
    · intro q9 o ho x' W1 hR hF
      match q9, ho with
      | 0, ho =>
        obtain rfl := Option.some.inj ho
        exact gstep_move rfl (wanted0 rfl) _ rfl _ (eval_of 0 _ (by kernel_rfl) rfl) ⟨_, rfl, rfl, Below.refl _ _⟩
      | 1, ho =>
        obtain rfl := Option.some.inj ho
        exact gstep_lenS rfl (wanted0 rfl) _ rfl (eval_at 5 0 _ (by kernel_rfl) (show 5 < 25 by decide) (hF 0 (by kernel_rfl))) ⟨_, rfl, rfl, Below.refl _ _⟩
      | 2, ho =>
        obtain rfl := Option.some.inj ho
        exact gstep_load rfl (wanted0 rfl) _ _ rfl _ (eval_of 1 _ (by kernel_rfl) rfl) _ (run_loadSs W1 _ _ _ _ (HPB.out W1 hR)) ⟨_, rfl, rfl, Below.refl _ _⟩
      | 3, ho =>
        obtain rfl := Option.some.inj ho
        exact gstep_load rfl (wanted0 rfl) _ _ rfl _ (eval_of 2 _ (by kernel_rfl) rfl) _ (run_loadI W1 _ _ (HKB.out W1 hR)) ⟨_, rfl, rfl, Below.refl _ _⟩
      | 4, ho =>
        obtain rfl := Option.some.inj ho
        exact gstep_index rfl (wanted0 rfl) _ _ _ rfl _ _ (eval_at 7 2 _ (by kernel_rfl) (show 7 < 25 by decide) (hF 2 (by kernel_rfl))) (eval_at 8 3 _ (by kernel_rfl) (show 8 < 25 by decide) (hF 3 (by kernel_rfl))) _ (run_ixSs W1 _ _ _ _ HKN.out) ⟨_, rfl, rfl, Below.refl _ _⟩
      | 5, ho =>
        obtain rfl := Option.some.inj ho
        exact gstep_load rfl (wanted0 rfl) _ _ rfl _ (eval_at 9 4 _ (by kernel_rfl) (show 9 < 25 by decide) (hF 4 (by kernel_rfl))) _ (run_loadS W1 _ _ (HGC.out W1 hR)) ⟨_, rfl, rfl, Below.refl _ _⟩
      | 6, ho =>
        obtain rfl := Option.some.inj ho
        exact gstep_lenS rfl (wanted0 rfl) _ rfl (eval_at 10 5 _ (by kernel_rfl) (show 10 < 25 by decide) (hF 5 (by kernel_rfl))) ⟨_, rfl, rfl, Below.refl _ _⟩
      | 7, ho =>
        obtain rfl := Option.some.inj ho
        exact gstep_bin rfl (wanted0 rfl) _ _ _ _ _ rfl _ _ (eval_at 6 1 _ (by kernel_rfl) (show 6 < 25 by decide) (hF 1 (by kernel_rfl))) (eval_at 11 6 _ (by kernel_rfl) (show 11 < 25 by decide) (hF 6 (by kernel_rfl))) _ (run_eqI W1 _ _ _ HSZ.out _ _) ⟨_, rfl, rfl, Below.refl _ _⟩
      | 8, ho =>
        obtain rfl := Option.some.inj ho
        exact gstep_move rfl (wanted0 rfl) _ rfl _ (eval_at 12 7 _ (by kernel_rfl) (show 12 < 25 by decide) (hF 7 (by kernel_rfl))) ⟨_, rfl, rfl, Below.refl _ _⟩
      | 9, ho =>
        obtain rfl := Option.some.inj ho
        exact gstep_move rfl (wanted_at 13 8 true _ true rfl (by kernel_rfl) (show 13 < 25 by decide) (hF 8 (by kernel_rfl)) rfl) _ rfl _ (eval_of 0 _ (by kernel_rfl) rfl) ⟨_, rfl, rfl, Below.refl _ _⟩
      | 10, ho =>
        obtain rfl := Option.some.inj ho
        exact gstep_rowS rfl (wanted_at 13 8 true _ true rfl (by kernel_rfl) (show 13 < 25 by decide) (hF 8 (by kernel_rfl)) rfl) _ rfl _ (eval_at 14 9 _ (by kernel_rfl) (show 14 < 25 by decide) (hF 9 (by kernel_rfl))) ⟨_, rfl, ⟨W1.heap.size, rfl, heap_alloc_new W1 _⟩, (Below.refl _ W1).alloc (Nat.le_refl _) _⟩
      | 11, ho =>
        obtain rfl := Option.some.inj ho
        obtain ⟨gx, hx1, hx2⟩ := hF 10 (by kernel_rfl)
        refine gstep_call rfl (wanted_at 13 8 true _ true rfl (by kernel_rfl) (show 13 < 25 by decide) (hF 8 (by kernel_rfl)) rfl) _ _ _ rfl _ (eval_at 15 10 _ (by kernel_rfl) (show 15 < 25 by decide) hx1) (call_of W1 _) ?_
        refine (sumof_at (HTB.out W1 hR) hx2 HCX.out).mono ?_
        rintro e w2 ⟨rfl, hb⟩
        exact ⟨_, rfl, _, rfl, (by rw [HZX.out]; rfl), hb⟩
      | 12, ho =>
        obtain rfl := Option.some.inj ho
        exact gstep_load rfl (wanted_at 13 8 true _ true rfl (by kernel_rfl) (show 13 < 25 by decide) (hF 8 (by kernel_rfl)) rfl) _ _ rfl _ (eval_of 1 _ (by kernel_rfl) rfl) _ (run_loadSs W1 _ _ _ _ (HPB.out W1 hR)) ⟨_, rfl, rfl, Below.refl _ _⟩
      | 13, ho =>
        obtain rfl := Option.some.inj ho
        exact gstep_load rfl (wanted_at 13 8 true _ true rfl (by kernel_rfl) (show 13 < 25 by decide) (hF 8 (by kernel_rfl)) rfl) _ _ rfl _ (eval_of 2 _ (by kernel_rfl) rfl) _ (run_loadI W1 _ _ (HKB.out W1 hR)) ⟨_, rfl, rfl, Below.refl _ _⟩
      | 14, ho =>
        obtain rfl := Option.some.inj ho
        exact gstep_index rfl (wanted_at 13 8 true _ true rfl (by kernel_rfl) (show 13 < 25 by decide) (hF 8 (by kernel_rfl)) rfl) _ _ _ rfl _ _ (eval_at 17 12 _ (by kernel_rfl) (show 17 < 25 by decide) (hF 12 (by kernel_rfl))) (eval_at 18 13 _ (by kernel_rfl) (show 18 < 25 by decide) (hF 13 (by kernel_rfl))) _ (run_ixSs W1 _ _ _ _ HKN.out) ⟨_, rfl, rfl, Below.refl _ _⟩
      | 15, ho =>
        obtain rfl := Option.some.inj ho
        exact gstep_load rfl (wanted_at 13 8 true _ true rfl (by kernel_rfl) (show 13 < 25 by decide) (hF 8 (by kernel_rfl)) rfl) _ _ rfl _ (eval_at 19 14 _ (by kernel_rfl) (show 19 < 25 by decide) (hF 14 (by kernel_rfl))) _ (run_loadS W1 _ _ (HGC.out W1 hR)) ⟨_, rfl, rfl, Below.refl _ _⟩
      | 16, ho =>
        obtain rfl := Option.some.inj ho
        exact gstep_rowS rfl (wanted_at 13 8 true _ true rfl (by kernel_rfl) (show 13 < 25 by decide) (hF 8 (by kernel_rfl)) rfl) _ rfl _ (eval_at 20 15 _ (by kernel_rfl) (show 20 < 25 by decide) (hF 15 (by kernel_rfl))) ⟨_, rfl, ⟨W1.heap.size, rfl, heap_alloc_new W1 _⟩, (Below.refl _ W1).alloc (Nat.le_refl _) _⟩
      | 17, ho =>
        obtain rfl := Option.some.inj ho
        obtain ⟨gx, hx1, hx2⟩ := hF 16 (by kernel_rfl)
        refine gstep_call rfl (wanted_at 13 8 true _ true rfl (by kernel_rfl) (show 13 < 25 by decide) (hF 8 (by kernel_rfl)) rfl) _ _ _ rfl _ (eval_at 21 16 _ (by kernel_rfl) (show 21 < 25 by decide) hx1) (call_of W1 _) ?_
        refine (sumof_at (HTB.out W1 hR) hx2 HCP.out).mono ?_
        rintro e w2 ⟨rfl, hb⟩
        exact ⟨_, rfl, _, rfl, (by rw [HZP.out]; rfl), hb⟩
      | 18, ho =>
        obtain rfl := Option.some.inj ho
        exact gstep_bin rfl (wanted_at 13 8 true _ true rfl (by kernel_rfl) (show 13 < 25 by decide) (hF 8 (by kernel_rfl)) rfl) _ _ _ _ _ rfl _ _ (eval_at 16 11 _ (by kernel_rfl) (show 16 < 25 by decide) (hF 11 (by kernel_rfl))) (eval_at 22 17 _ (by kernel_rfl) (show 22 < 25 by decide) (hF 17 (by kernel_rfl))) _ (run_eqU W1 _ _ _ HZZ.out _ _) ⟨_, rfl, rfl, Below.refl _ _⟩
      | 19, ho =>
        obtain rfl := Option.some.inj ho
        exact gstep_pick rfl (wanted0 rfl) _ _ _ rfl true (eval_at 13 8 _ (by kernel_rfl) (show 13 < 25 by decide) (hF 8 (by kernel_rfl))) _ (by rw [if_pos rfl]; exact (eval_at 23 18 _ (by kernel_rfl) (show 23 < 25 by decide) (hF 18 (by kernel_rfl)))) ⟨_, rfl, rfl, Below.refl _ _⟩
      | 20, ho =>
        obtain rfl := Option.some.inj ho
        exact gstep_assign rfl (wanted0 rfl) _ rfl _ (eval_at 24 19 _ (by kernel_rfl) (show 24 < 25 by decide) (hF 19 (by kernel_rfl))) ⟨_, rfl, rfl, Below.refl _ _⟩
      | n + 21, ho => simp at ho
    · intro x' w5 hR hF
      have h20 := hF 20 (by decide)
      simp only [putAll, Act.put, List.setIfInBounds_toArray, List.set_cons_succ, List.set_cons_zero]
      generalize x' 20 = v20 at h20 ⊢
      have h20' : v20 = .bool Z := h20
      subst h20'
      have B5 := HBF.out w5 hR
      clear hF h20
      go_wp2_with fail
      go_ret
      exact ⟨by rw [HV.out]; rfl, B5⟩
  · have HV : Hid (decide (x.size = p.size ∧ addN 0 x.data.toList = addN 0 p.data.toList) = false) := decide_eq_false (fun h => hs h.1)
    have HSZ : Hid (((x.size : Int) == (p.size : Int)) = false) := beq_eq_false_iff_ne.2 (by omega)
    clear hs hx hp ht hl hpb hkb hgc hk hzx hzp hZ
    go_enter Tryd.func49, Tryd.ntmps49
    go_upto_region 1 with fail
    refine wp_region_steps (atP [fun v _ => v = (.string x),
      fun v _ => v = (.int .i64 (x.size : Int)),
      fun v _ => v = (.slice (some ⟨g, 0, none⟩) N gc),
      fun v _ => v = (.int .i64 (k : Int)),
      fun v _ => v = (.pointer (some ⟨g, k, none⟩)),
      fun v _ => v = (.string p),
      fun v _ => v = (.int .i64 (p.size : Int)),
      fun v _ => v = (.bool false),
      fun v _ => v = (.bool false),
      fun v _ => v = undef,
      fun v _ => v = undef,
      fun v _ => v = undef,
      fun v _ => v = undef,
      fun v _ => v = undef,
      fun v _ => v = undef,
      fun v _ => v = undef,
      fun v _ => v = undef,
      fun v _ => v = undef,
      fun v _ => v = undef,
      fun v _ => v = (.bool false),
      fun v _ => v = (.bool false)]) (fun w w' => Below w.heap.size w w') (by kernel_rfl) (by kernel_rfl) (by kernel_rfl) (Below.refl _ _) (fun i v w w' _ h1 h2 => atP_keep (R := fun w w' => Below w.heap.size w w') (atK1 (fun _ _ _ h _ => h) (atK1 (fun _ _ _ h _ => h) (atK1 (fun _ _ _ h _ => h) (atK1 (fun _ _ _ h _ => h) (atK1 (fun _ _ _ h _ => h) (atK1 (fun _ _ _ h _ => h) (atK1 (fun _ _ _ h _ => h) (atK1 (fun _ _ _ h _ => h) (atK1 (fun _ _ _ h _ => h) (atK1 (fun _ _ _ h _ => h) (atK1 (fun _ _ _ h _ => h) (atK1 (fun _ _ _ h _ => h) (atK1 (fun _ _ _ h _ => h) (atK1 (fun _ _ _ h _ => h) (atK1 (fun _ _ _ h _ => h) (atK1 (fun _ _ _ h _ => h) (atK1 (fun _ _ _ h _ => h) (atK1 (fun _ _ _ h _ => h) (atK1 (fun _ _ _ h _ => h) (atK1 (fun _ _ _ h _ => h) (atK1 (fun _ _ _ h _ => h) (atK0)))))))))))))))))))))) i h1 h2) (fun u v w h1 h2 => h1.trans (h2.mono h1.size)) ?_ ?_
    · intro q9 o ho x' W1 hR hF
      match q9, ho with
      | 0, ho =>
        obtain rfl := Option.some.inj ho
        exact gstep_move rfl (wanted0 rfl) _ rfl _ (eval_of 0 _ (by kernel_rfl) rfl) ⟨_, rfl, rfl, Below.refl _ _⟩
      | 1, ho =>
        obtain rfl := Option.some.inj ho
        exact gstep_lenS rfl (wanted0 rfl) _ rfl (eval_at 5 0 _ (by kernel_rfl) (show 5 < 25 by decide) (hF 0 (by kernel_rfl))) ⟨_, rfl, rfl, Below.refl _ _⟩
      | 2, ho =>
        obtain rfl := Option.some.inj ho
        exact gstep_load rfl (wanted0 rfl) _ _ rfl _ (eval_of 1 _ (by kernel_rfl) rfl) _ (run_loadSs W1 _ _ _ _ (HPB.out W1 hR)) ⟨_, rfl, rfl, Below.refl _ _⟩
      | 3, ho =>
        obtain rfl := Option.some.inj ho
        exact gstep_load rfl (wanted0 rfl) _ _ rfl _ (eval_of 2 _ (by kernel_rfl) rfl) _ (run_loadI W1 _ _ (HKB.out W1 hR)) ⟨_, rfl, rfl, Below.refl _ _⟩
      | 4, ho =>
        obtain rfl := Option.some.inj ho
        exact gstep_index rfl (wanted0 rfl) _ _ _ rfl _ _ (eval_at 7 2 _ (by kernel_rfl) (show 7 < 25 by decide) (hF 2 (by kernel_rfl))) (eval_at 8 3 _ (by kernel_rfl) (show 8 < 25 by decide) (hF 3 (by kernel_rfl))) _ (run_ixSs W1 _ _ _ _ HKN.out) ⟨_, rfl, rfl, Below.refl _ _⟩
      | 5, ho =>
        obtain rfl := Option.some.inj ho
        exact gstep_load rfl (wanted0 rfl) _ _ rfl _ (eval_at 9 4 _ (by kernel_rfl) (show 9 < 25 by decide) (hF 4 (by kernel_rfl))) _ (run_loadS W1 _ _ (HGC.out W1 hR)) ⟨_, rfl, rfl, Below.refl _ _⟩
      | 6, ho =>
        obtain rfl := Option.some.inj ho
        exact gstep_lenS rfl (wanted0 rfl) _ rfl (eval_at 10 5 _ (by kernel_rfl) (show 10 < 25 by decide) (hF 5 (by kernel_rfl))) ⟨_, rfl, rfl, Below.refl _ _⟩
      | 7, ho =>
        obtain rfl := Option.some.inj ho
        exact gstep_bin rfl (wanted0 rfl) _ _ _ _ _ rfl _ _ (eval_at 6 1 _ (by kernel_rfl) (show 6 < 25 by decide) (hF 1 (by kernel_rfl))) (eval_at 11 6 _ (by kernel_rfl) (show 11 < 25 by decide) (hF 6 (by kernel_rfl))) _ (run_eqI W1 _ _ _ HSZ.out _ _) ⟨_, rfl, rfl, Below.refl _ _⟩
      | 8, ho =>
        obtain rfl := Option.some.inj ho
        exact gstep_move rfl (wanted0 rfl) _ rfl _ (eval_at 12 7 _ (by kernel_rfl) (show 12 < 25 by decide) (hF 7 (by kernel_rfl))) ⟨_, rfl, rfl, Below.refl _ _⟩
      | 9, ho =>
        obtain rfl := Option.some.inj ho
        exact gstep_skip rfl (wanted_at 13 8 true _ false rfl (by kernel_rfl) (show 13 < 25 by decide) (hF 8 (by kernel_rfl)) rfl) ⟨_, rfl, rfl, Below.refl _ _⟩
      | 10, ho =>
        obtain rfl := Option.some.inj ho
        exact gstep_skip rfl (wanted_at 13 8 true _ false rfl (by kernel_rfl) (show 13 < 25 by decide) (hF 8 (by kernel_rfl)) rfl) ⟨_, rfl, rfl, Below.refl _ _⟩
      | 11, ho =>
        obtain rfl := Option.some.inj ho
        exact gstep_skip rfl (wanted_at 13 8 true _ false rfl (by kernel_rfl) (show 13 < 25 by decide) (hF 8 (by kernel_rfl)) rfl) ⟨_, rfl, rfl, Below.refl _ _⟩
      | 12, ho =>
        obtain rfl := Option.some.inj ho
        exact gstep_skip rfl (wanted_at 13 8 true _ false rfl (by kernel_rfl) (show 13 < 25 by decide) (hF 8 (by kernel_rfl)) rfl) ⟨_, rfl, rfl, Below.refl _ _⟩
      | 13, ho =>
        obtain rfl := Option.some.inj ho
        exact gstep_skip rfl (wanted_at 13 8 true _ false rfl (by kernel_rfl) (show 13 < 25 by decide) (hF 8 (by kernel_rfl)) rfl) ⟨_, rfl, rfl, Below.refl _ _⟩
      | 14, ho =>
        obtain rfl := Option.some.inj ho
        exact gstep_skip rfl (wanted_at 13 8 true _ false rfl (by kernel_rfl) (show 13 < 25 by decide) (hF 8 (by kernel_rfl)) rfl) ⟨_, rfl, rfl, Below.refl _ _⟩
      | 15, ho =>
        obtain rfl := Option.some.inj ho
        exact gstep_skip rfl (wanted_at 13 8 true _ false rfl (by kernel_rfl) (show 13 < 25 by decide) (hF 8 (by kernel_rfl)) rfl) ⟨_, rfl, rfl, Below.refl _ _⟩
      | 16, ho =>
        obtain rfl := Option.some.inj ho
        exact gstep_skip rfl (wanted_at 13 8 true _ false rfl (by kernel_rfl) (show 13 < 25 by decide) (hF 8 (by kernel_rfl)) rfl) ⟨_, rfl, rfl, Below.refl _ _⟩
      | 17, ho =>
        obtain rfl := Option.some.inj ho
        exact gstep_skip rfl (wanted_at 13 8 true _ false rfl (by kernel_rfl) (show 13 < 25 by decide) (hF 8 (by kernel_rfl)) rfl) ⟨_, rfl, rfl, Below.refl _ _⟩
      | 18, ho =>
        obtain rfl := Option.some.inj ho
        exact gstep_skip rfl (wanted_at 13 8 true _ false rfl (by kernel_rfl) (show 13 < 25 by decide) (hF 8 (by kernel_rfl)) rfl) ⟨_, rfl, rfl, Below.refl _ _⟩
      | 19, ho =>
        obtain rfl := Option.some.inj ho
        exact gstep_pick rfl (wanted0 rfl) _ _ _ rfl false (eval_at 13 8 _ (by kernel_rfl) (show 13 < 25 by decide) (hF 8 (by kernel_rfl))) _ (by rw [if_neg (by decide)]; exact rfl) ⟨_, rfl, rfl, Below.refl _ _⟩
      | 20, ho =>
        obtain rfl := Option.some.inj ho
        exact gstep_assign rfl (wanted0 rfl) _ rfl _ (eval_at 24 19 _ (by kernel_rfl) (show 24 < 25 by decide) (hF 19 (by kernel_rfl))) ⟨_, rfl, rfl, Below.refl _ _⟩
      | n + 21, ho => simp at ho
    · intro x' w5 hR hF
      have h20 := hF 20 (by decide)
      simp only [putAll, Act.put, List.setIfInBounds_toArray, List.set_cons_succ, List.set_cons_zero]
      generalize x' 20 = v20 at h20 ⊢
      have h20' : v20 = .bool false := h20
      subst h20'
      have B5 := HBF.out w5 hR
      clear hF h20
      go_wp2_with fail
      go_ret
      exact ⟨by rw [HV.out]; rfl, B5⟩
/-- What Mends leave alone, and that the store is there. -/
structure RM (m : Nat) (E : Nat → Prop) (b B M base : Nat) (l : Ls) (sv : Value) (ar : Nat) (w w' : World) : Prop where
  below : Below m w w'
  kept : Kept E w w'
  st : (∃ D, StC m E w b B M base l sv ar D) → ∃ D, StC m E w' b B M base l sv ar D
section
variable {m : Nat} {E : Nat → Prop} {b B M base : Nat} {l : Ls} {sv : Value} {ar : Nat} {u v w : World}
theorem RM.refl (w : World) : RM m E b B M base l sv ar w w := ⟨Below.refl _ _, Kept.refl _ _, id⟩
theorem RM.trans (h : RM m E b B M base l sv ar u v) (k : RM m E b B M base l sv ar v w) : RM m E b B M base l sv ar u w := ⟨h.below.trans k.below, h.kept.trans k.kept, fun x => k.st (h.st x)⟩
theorem RM.of_below (h : Below u.heap.size u v) (hm : m ≤ u.heap.size) (hE : ∀ k, E k → k < u.heap.size) : RM m E b B M base l sv ar u v := ⟨h.mono hm, Kept.of_below hE h, fun ⟨D, x⟩ => ⟨D, x.below h⟩⟩
theorem Kept.cell {x : World} (h : Kept E u x) {p : Addr} (hE : E p.block) : x.cell? p = u.cell? p := by
  simp only [World.cell?, h p.block hE]
end
end Go.Proofs.YtiknfifiglooeaaDoor
