/- order: which of two watches comes first. No conditions beyond those in each statement. -/
import Derived.Test.YtbbdokfankgllaaGreatDoorWOrd
import Derived.Test.YtbbdokfankgllaaGreatDoorInvAll
import Derived.Deep.DeepCutAuto
namespace Go.Proofs.YtbbdokfankgllaaGreatDoor
open Go.RowKit
set_option linter.unusedVariables false
set_option maxRecDepth 100000

def ordL (x y : Wa) : List Int := [cmpZ x.ses y.ses, cmpT x.path y.path, cmpB x.kids y.kids, cmpB x.once y.once]
def Row4 (w : World) (g : Nat) (zs : List Int) : Prop := g < w.heap.size ∧ ∀ j, j < zs.length → w.cell? ⟨g, j, none⟩ = some (.int .i64 (zs.getD j 0))
theorem Row4.below {w w' : World} {g : Nat} {zs : List Int} (h : Row4 w g zs) (hb : Below w.heap.size w w') : Row4 w' g zs := ⟨Nat.lt_of_lt_of_le h.1 hb.size, fun j hj => (hb.cell (p := ⟨g, j, none⟩) h.1).trans (h.2 j hj)⟩
theorem run_row4 (W : World) (a b c d : Int) : (Instr.buildSlice 33 4 #[(0, .int .i64 a), (1, .int .i64 b), (2, .int .i64 c), (3, .int .i64 d)]).run Tryz.prog W = .ok (.slice (some ⟨W.heap.size, 0, none⟩) 4 4) (W.alloc (.cells #[.int .i64 a, .int .i64 b, .int .i64 c, .int .i64 d] 3)) := by go_simp
theorem cell_row4 (W : World) (a b c d : Int) : Row4 (W.alloc (.cells #[.int .i64 a, .int .i64 b, .int .i64 c, .int .i64 d] 3)) W.heap.size [a, b, c, d] := by
  have h := heap_alloc_new W (.cells #[.int .i64 a, .int .i64 b, .int .i64 c, .int .i64 d] 3)
  generalize W.alloc (.cells #[.int .i64 a, .int .i64 b, .int .i64 c, .int .i64 d] 3) = V at h
  refine ⟨(Array.getElem?_eq_some_iff.1 h).1, fun j hj => ?_⟩
  match j, hj with
  | 0, _ => simp [World.cell?, h]
  | 1, _ => simp [World.cell?, h]
  | 2, _ => simp [World.cell?, h]
  | 3, _ => simp [World.cell?, h]
theorem gstep_row4 {P : Program} {Q : Exit → Act → World → Prop} {l : List Oper} {i : Nat} {o : Oper} {a : Act} {w : World} {K : Act → World → Prop} (ho : l[i]? = some o) (hw : WantedIs l a o true) (t : TypeId) (s1 s2 s3 s4 : Operand) (hop : o.op = .buildSlice t 4 #[(0, s1), (1, s2), (2, s3), (3, s4)]) (v1 v2 v3 v4 : Value)
    (he1 : a.eval s1 = v1) (he2 : a.eval s2 = v2) (he3 : a.eval s3 = v3) (he4 : a.eval s4 = v4) (v' : Value) (w' : World)
    (hr : (Instr.buildSlice t 4 #[(0, v1), (1, v2), (2, v3), (3, v4)]).run P w = .ok v' w') (h : K (a.put o.dst v') w') : Step P l Q i K a w :=
  gstep_value ho hw v' w' (by simp only [execOp, hop, List.map_toArray, List.map_cons, List.map_nil, he1, he2, he3, he4, Sem.run_bind, Sem.run_pure, hr, Result.andThen_ok]) h
theorem call_cint (W : World) (v1 v2 : Value) : (callFunc 68 #[v1, v2]).run Tryz.prog W = .ok (.enter 68 #[v1, v2]) W := by kernel_rfl
theorem call_cstr (W : World) (v1 v2 : Value) : (callFunc 69 #[v1, v2]).run Tryz.prog W = .ok (.enter 69 #[v1, v2]) W := by kernel_rfl
theorem call_cff (W : World) (v1 v2 : Value) : (callFunc 70 #[v1, v2]).run Tryz.prog W = .ok (.enter 70 #[v1, v2]) W := by kernel_rfl
theorem call_cor (W : World) (v1 : Value) : (callFunc 67 #[v1]).run Tryz.prog W = .ok (.enter 67 #[v1]) W := by kernel_rfl
theorem run_wF0 (W : World) (g : Nat) : (Instr.fieldAt 49 (.pointer (some ⟨g, 0, none⟩)) 0).run Tryz.prog W = .ok (.pointer (some ⟨g, 0, none⟩)) W := by go_simp
theorem run_wF1 (W : World) (g : Nat) : (Instr.fieldAt 49 (.pointer (some ⟨g, 0, none⟩)) 1).run Tryz.prog W = .ok (.pointer (some ⟨g, 1, none⟩)) W := by go_simp
theorem run_wF2 (W : World) (g : Nat) : (Instr.fieldAt 49 (.pointer (some ⟨g, 0, none⟩)) 2).run Tryz.prog W = .ok (.pointer (some ⟨g, 2, none⟩)) W := by go_simp
theorem run_wF3 (W : World) (g : Nat) : (Instr.fieldAt 49 (.pointer (some ⟨g, 0, none⟩)) 3).run Tryz.prog W = .ok (.pointer (some ⟨g, 3, none⟩)) W := by go_simp
theorem run_wlI (W : World) (p : Addr) (z : Int) (h : W.cell? p = some (.int .i64 z)) : (Instr.loadAt 3 (.pointer (some p))).run Tryz.prog W = .ok (.int .i64 z) W := by go_simp
theorem run_wlT (W : World) (p : Addr) (z : ByteArray) (h : W.cell? p = some (.string z)) : (Instr.loadAt 9 (.pointer (some p))).run Tryz.prog W = .ok (.string z) W := by go_simp
theorem run_wlB (W : World) (p : Addr) (z : Bool) (h : W.cell? p = some (.bool z)) : (Instr.loadAt 4 (.pointer (some p))).run Tryz.prog W = .ok (.bool z) W := by go_simp
/-- A watch in a block of its own. -/
def WaB (w : World) (b : Nat) (x : Wa) : Prop := w.heap[b]? = some (.cells #[.int .i64 x.ses, .string x.path, .bool x.kids, .bool x.once] 49 (0, 0))
theorem WaB.cells {w : World} {b : Nat} {x : Wa} (h : WaB w b x) : w.cell? ⟨b, 0, none⟩ = some (.int .i64 x.ses) ∧ w.cell? ⟨b, 1, none⟩ = some (.string x.path) ∧ w.cell? ⟨b, 2, none⟩ = some (.bool x.kids) ∧ w.cell? ⟨b, 3, none⟩ = some (.bool x.once) := by
  unfold WaB at h
  exact ⟨by simp [World.cell?, h], by simp [World.cell?, h], by simp [World.cell?, h], by simp [World.cell?, h]⟩
theorem WaB.lt {w : World} {b : Nat} {x : Wa} (h : WaB w b x) : b < w.heap.size := (Array.getElem?_eq_some_iff.1 h).1
theorem WaB.below {w w' : World} {b : Nat} {x : Wa} (h : WaB w b x) (hb : Below w.heap.size w w') : WaB w' b x := (hb.block b h.lt).trans h
def FOr (x y : Wa) (ab bb : Nat) : Nat → Value → World → Prop
  | 0, v, _ => v = .pointer (some ⟨ab, 0, none⟩)
  | 1, v, _ => v = .int .i64 x.ses
  | 2, v, _ => v = .pointer (some ⟨bb, 0, none⟩)
  | 3, v, _ => v = .int .i64 y.ses
  | 4, v, _ => v = .int .i64 (cmpZ x.ses y.ses)
  | 5, v, _ => v = .pointer (some ⟨ab, 1, none⟩)
  | 6, v, _ => v = .string x.path
  | 7, v, _ => v = .pointer (some ⟨bb, 1, none⟩)
  | 8, v, _ => v = .string y.path
  | 9, v, _ => v = .int .i64 (cmpT x.path y.path)
  | 10, v, _ => v = .pointer (some ⟨ab, 2, none⟩)
  | 11, v, _ => v = .bool x.kids
  | 12, v, _ => v = .pointer (some ⟨bb, 2, none⟩)
  | 13, v, _ => v = .bool y.kids
  | 14, v, _ => v = .int .i64 (cmpB x.kids y.kids)
  | 15, v, _ => v = .pointer (some ⟨ab, 3, none⟩)
  | 16, v, _ => v = .bool x.once
  | 17, v, _ => v = .pointer (some ⟨bb, 3, none⟩)
  | 18, v, _ => v = .bool y.once
  | 19, v, _ => v = .int .i64 (cmpB x.once y.once)
  | 20, v, w => ∃ g, v = .slice (some ⟨g, 0, none⟩) 4 4 ∧ Row4 w g (ordL x y)
  | 21, v, _ => v = .int .i64 (orderF x y)
  | 22, v, _ => v = .int .i64 (orderF x y)
  | _, _, _ => True
theorem FOr_keep {x y : Wa} {ab bb : Nat} {v : Value} {w w' : World} (hb : Below w.heap.size w w') : ∀ i : Nat, FOr x y ab bb i v w → FOr x y ab bb i v w'
  | 0, h => h
  | 1, h => h
  | 2, h => h
  | 3, h => h
  | 4, h => h
  | 5, h => h
  | 6, h => h
  | 7, h => h
  | 8, h => h
  | 9, h => h
  | 10, h => h
  | 11, h => h
  | 12, h => h
  | 13, h => h
  | 14, h => h
  | 15, h => h
  | 16, h => h
  | 17, h => h
  | 18, h => h
  | 19, h => h
  | 20, h => (by obtain ⟨g, h1, h2⟩ := h; exact ⟨g, h1, h2.below hb⟩)
  | 21, h => h
  | 22, h => h
  | _ + 23, _ => trivial
set_option maxHeartbeats 4000000 in
theorem order_any (x y : Wa) (w : World) : Calls Tryz.prog 40 #[waV x, waV y] w fun e w' => e = .returned (.int .i64 (orderF x y)) ∧ Below w.heap.size w w' := by
  have b1 := (Below.refl w.heap.size w).alloc (Nat.le_refl _) (.cells #[.int .i64 x.ses, .string x.path, .bool x.kids, .bool x.once] 49)
  have N1 : WaB (w.alloc (.cells #[.int .i64 x.ses, .string x.path, .bool x.kids, .bool x.once] 49)) w.heap.size x := heap_alloc_new w _
  obtain ⟨w1, hw1⟩ : ∃ w1, w1 = w.alloc (.cells #[.int .i64 x.ses, .string x.path, .bool x.kids, .bool x.once] 49) := ⟨_, rfl⟩
  have b2 := (Below.refl w1.heap.size w1).alloc (Nat.le_refl _) (.cells #[.int .i64 y.ses, .string y.path, .bool y.kids, .bool y.once] 49)
  have N2 : WaB (w1.alloc (.cells #[.int .i64 y.ses, .string y.path, .bool y.kids, .bool y.once] 49)) w1.heap.size y := heap_alloc_new w1 _
  have HW1 := Lib.hid hw1
  rw [← hw1] at b1 N1
  unfold waV
  clear hw1
  go_enter Tryz.func40, Tryz.ntmps40
  go_upto_region 1 with fail
  rw [← HW1.out]
  obtain ⟨w2, hw2⟩ : ∃ w2, w2 = w1.alloc (.cells #[.int .i64 y.ses, .string y.path, .bool y.kids, .bool y.once] 49) := ⟨_, rfl⟩
  rw [← hw2] at b2 N2 ⊢
  have M1 := N1.below b2
  have b12 := b1.trans (b2.mono b1.size)
  obtain ⟨ab, hab⟩ : ∃ ab, ab = w.heap.size := ⟨_, rfl⟩
  obtain ⟨bb, hbb⟩ : ∃ bb, bb = w.heap.size + 1 := ⟨_, rfl⟩
  rw [← hab] at M1
  have hs1 : w1.heap.size = w.heap.size + 1 := by rw [HW1.out]; exact Array.size_push _
  rw [hs1, ← hbb] at N2
  have HCE : Hid (∀ W : World, Below w2.drew.heap.size w2.drew W → (W.cell? ⟨ab, 0, none⟩ = some (.int .i64 x.ses) ∧ W.cell? ⟨ab, 1, none⟩ = some (.string x.path) ∧ W.cell? ⟨ab, 2, none⟩ = some (.bool x.kids) ∧ W.cell? ⟨ab, 3, none⟩ = some (.bool x.once)) ∧ (W.cell? ⟨bb, 0, none⟩ = some (.int .i64 y.ses) ∧ W.cell? ⟨bb, 1, none⟩ = some (.string y.path) ∧ W.cell? ⟨bb, 2, none⟩ = some (.bool y.kids) ∧ W.cell? ⟨bb, 3, none⟩ = some (.bool y.once))) := Lib.hid fun W hW => by
    have hW' : Below w2.heap.size w2 W := (Below.refl _ w2).drew.trans (hW.mono (Nat.le_refl _))
    exact ⟨(M1.below hW').cells, (N2.below hW').cells⟩
  have HD : Hid (∀ W : World, Below w2.drew.heap.size w2.drew W → Below w.heap.size w W) := Lib.hid fun W hW => b12.trans (((Below.refl _ w2).drew.trans (hW.mono (Nat.le_refl _))).mono b12.size)
  rw [← hbb, ← hab]
  clear hw2 N2 M1 N1 b2 b1 b12 hs1
  refine wp_region_steps (FOr x y ab bb) (fun w w' => Below w.heap.size w w') (by kernel_rfl) (by kernel_rfl) (by kernel_rfl) (Below.refl _ _) ?_ (fun u v w h1 h2 => h1.trans (h2.mono h1.size)) ?_ ?_
  · intro i v w w' _ h1 h2
    exact FOr_keep h2 i h1
  · intro i o ho z w1 hR hF
    match i, ho with
    | 0, ho =>
      obtain rfl := Option.some.inj ho
      exact gstep_field rfl (wanted0 rfl) _ _ _ rfl _ (eval_of 2 _ (by kernel_rfl) rfl) _ (run_wF0 w1 _) ⟨_, rfl, rfl, Below.refl _ _⟩
    | 1, ho =>
      obtain rfl := Option.some.inj ho
      exact gstep_load rfl (wanted0 rfl) _ _ rfl _ (eval_at 5 0 _ (by kernel_rfl) (show 5 < 27 by decide) (hF 0 (by kernel_rfl))) _ (run_wlI w1 _ _ (HCE.out w1 hR).1.1) ⟨_, rfl, rfl, Below.refl _ _⟩
    | 2, ho =>
      obtain rfl := Option.some.inj ho
      exact gstep_field rfl (wanted0 rfl) _ _ _ rfl _ (eval_of 3 _ (by kernel_rfl) rfl) _ (run_wF0 w1 _) ⟨_, rfl, rfl, Below.refl _ _⟩
    | 3, ho =>
      obtain rfl := Option.some.inj ho
      exact gstep_load rfl (wanted0 rfl) _ _ rfl _ (eval_at 7 2 _ (by kernel_rfl) (show 7 < 27 by decide) (hF 2 (by kernel_rfl))) _ (run_wlI w1 _ _ (HCE.out w1 hR).2.1) ⟨_, rfl, rfl, Below.refl _ _⟩
    | 4, ho =>
      obtain rfl := Option.some.inj ho
      refine gstep_call2 rfl (wanted0 rfl) _ _ _ _ rfl _ _ (eval_at 6 1 _ (by kernel_rfl) (show 6 < 27 by decide) (hF 1 (by kernel_rfl))) (eval_at 8 3 _ (by kernel_rfl) (show 8 < 27 by decide) (hF 3 (by kernel_rfl))) (call_cint w1 _ _) ?_
      refine (cmpint_any x.ses y.ses w1).mono ?_
      rintro e w2 ⟨rfl, rfl⟩
      exact ⟨_, rfl, _, rfl, rfl, Below.refl _ _⟩
    | 5, ho =>
      obtain rfl := Option.some.inj ho
      exact gstep_field rfl (wanted0 rfl) _ _ _ rfl _ (eval_of 2 _ (by kernel_rfl) rfl) _ (run_wF1 w1 _) ⟨_, rfl, rfl, Below.refl _ _⟩
    | 6, ho =>
      obtain rfl := Option.some.inj ho
      exact gstep_load rfl (wanted0 rfl) _ _ rfl _ (eval_at 10 5 _ (by kernel_rfl) (show 10 < 27 by decide) (hF 5 (by kernel_rfl))) _ (run_wlT w1 _ _ (HCE.out w1 hR).1.2.1) ⟨_, rfl, rfl, Below.refl _ _⟩
    | 7, ho =>
      obtain rfl := Option.some.inj ho
      exact gstep_field rfl (wanted0 rfl) _ _ _ rfl _ (eval_of 3 _ (by kernel_rfl) rfl) _ (run_wF1 w1 _) ⟨_, rfl, rfl, Below.refl _ _⟩
    | 8, ho =>
      obtain rfl := Option.some.inj ho
      exact gstep_load rfl (wanted0 rfl) _ _ rfl _ (eval_at 12 7 _ (by kernel_rfl) (show 12 < 27 by decide) (hF 7 (by kernel_rfl))) _ (run_wlT w1 _ _ (HCE.out w1 hR).2.2.1) ⟨_, rfl, rfl, Below.refl _ _⟩
    | 9, ho =>
      obtain rfl := Option.some.inj ho
      refine gstep_call2 rfl (wanted0 rfl) _ _ _ _ rfl _ _ (eval_at 11 6 _ (by kernel_rfl) (show 11 < 27 by decide) (hF 6 (by kernel_rfl))) (eval_at 13 8 _ (by kernel_rfl) (show 13 < 27 by decide) (hF 8 (by kernel_rfl))) (call_cstr w1 _ _) ?_
      refine (cmpstr_any x.path y.path w1).mono ?_
      rintro e w2 ⟨rfl, rfl⟩
      exact ⟨_, rfl, _, rfl, rfl, Below.refl _ _⟩
    | 10, ho =>
      obtain rfl := Option.some.inj ho
      exact gstep_field rfl (wanted0 rfl) _ _ _ rfl _ (eval_of 2 _ (by kernel_rfl) rfl) _ (run_wF2 w1 _) ⟨_, rfl, rfl, Below.refl _ _⟩
    | 11, ho =>
      obtain rfl := Option.some.inj ho
      exact gstep_load rfl (wanted0 rfl) _ _ rfl _ (eval_at 15 10 _ (by kernel_rfl) (show 15 < 27 by decide) (hF 10 (by kernel_rfl))) _ (run_wlB w1 _ _ (HCE.out w1 hR).1.2.2.1) ⟨_, rfl, rfl, Below.refl _ _⟩
    | 12, ho =>
      obtain rfl := Option.some.inj ho
      exact gstep_field rfl (wanted0 rfl) _ _ _ rfl _ (eval_of 3 _ (by kernel_rfl) rfl) _ (run_wF2 w1 _) ⟨_, rfl, rfl, Below.refl _ _⟩
    | 13, ho =>
      obtain rfl := Option.some.inj ho
      exact gstep_load rfl (wanted0 rfl) _ _ rfl _ (eval_at 17 12 _ (by kernel_rfl) (show 17 < 27 by decide) (hF 12 (by kernel_rfl))) _ (run_wlB w1 _ _ (HCE.out w1 hR).2.2.2.1) ⟨_, rfl, rfl, Below.refl _ _⟩
    | 14, ho =>
      obtain rfl := Option.some.inj ho
      refine gstep_call2 rfl (wanted0 rfl) _ _ _ _ rfl _ _ (eval_at 16 11 _ (by kernel_rfl) (show 16 < 27 by decide) (hF 11 (by kernel_rfl))) (eval_at 18 13 _ (by kernel_rfl) (show 18 < 27 by decide) (hF 13 (by kernel_rfl))) (call_cff w1 _ _) ?_
      refine (ffirst_any x.kids y.kids w1).mono ?_
      rintro e w2 ⟨rfl, rfl⟩
      exact ⟨_, rfl, _, rfl, rfl, Below.refl _ _⟩
    | 15, ho =>
      obtain rfl := Option.some.inj ho
      exact gstep_field rfl (wanted0 rfl) _ _ _ rfl _ (eval_of 2 _ (by kernel_rfl) rfl) _ (run_wF3 w1 _) ⟨_, rfl, rfl, Below.refl _ _⟩
    | 16, ho =>
      obtain rfl := Option.some.inj ho
      exact gstep_load rfl (wanted0 rfl) _ _ rfl _ (eval_at 20 15 _ (by kernel_rfl) (show 20 < 27 by decide) (hF 15 (by kernel_rfl))) _ (run_wlB w1 _ _ (HCE.out w1 hR).1.2.2.2) ⟨_, rfl, rfl, Below.refl _ _⟩
    | 17, ho =>
      obtain rfl := Option.some.inj ho
      exact gstep_field rfl (wanted0 rfl) _ _ _ rfl _ (eval_of 3 _ (by kernel_rfl) rfl) _ (run_wF3 w1 _) ⟨_, rfl, rfl, Below.refl _ _⟩
    | 18, ho =>
      obtain rfl := Option.some.inj ho
      exact gstep_load rfl (wanted0 rfl) _ _ rfl _ (eval_at 22 17 _ (by kernel_rfl) (show 22 < 27 by decide) (hF 17 (by kernel_rfl))) _ (run_wlB w1 _ _ (HCE.out w1 hR).2.2.2.2) ⟨_, rfl, rfl, Below.refl _ _⟩
    | 19, ho =>
      obtain rfl := Option.some.inj ho
      refine gstep_call2 rfl (wanted0 rfl) _ _ _ _ rfl _ _ (eval_at 21 16 _ (by kernel_rfl) (show 21 < 27 by decide) (hF 16 (by kernel_rfl))) (eval_at 23 18 _ (by kernel_rfl) (show 23 < 27 by decide) (hF 18 (by kernel_rfl))) (call_cff w1 _ _) ?_
      refine (ffirst_any x.once y.once w1).mono ?_
      rintro e w2 ⟨rfl, rfl⟩
      exact ⟨_, rfl, _, rfl, rfl, Below.refl _ _⟩
    | 20, ho =>
      obtain rfl := Option.some.inj ho
      exact gstep_row4 rfl (wanted0 rfl) _ _ _ _ _ rfl _ _ _ _ (eval_at 9 4 _ (by kernel_rfl) (show 9 < 27 by decide) (hF 4 (by kernel_rfl))) (eval_at 14 9 _ (by kernel_rfl) (show 14 < 27 by decide) (hF 9 (by kernel_rfl))) (eval_at 19 14 _ (by kernel_rfl) (show 19 < 27 by decide) (hF 14 (by kernel_rfl))) (eval_at 24 19 _ (by kernel_rfl) (show 24 < 27 by decide) (hF 19 (by kernel_rfl))) _ _ (run_row4 w1 _ _ _ _) ⟨_, rfl, ⟨_, rfl, cell_row4 w1 _ _ _ _⟩, (Below.refl _ w1).alloc (Nat.le_refl _) _⟩
    | 21, ho =>
      obtain rfl := Option.some.inj ho
      obtain ⟨g, hx, hc⟩ := hF 20 (by kernel_rfl)
      refine gstep_call rfl (wanted0 rfl) _ _ _ rfl _ (eval_at 25 20 _ (by kernel_rfl) (show 25 < 27 by decide) hx) (call_cor w1 _) ?_
      refine (cor_any (ordL x y) g 4 w1 (by unfold ordL; simp) hc.2).mono ?_
      rintro e w2 ⟨rfl, rfl⟩
      exact ⟨_, rfl, _, rfl, rfl, Below.refl _ _⟩
    | 22, ho =>
      obtain rfl := Option.some.inj ho
      exact gstep_assign rfl (wanted0 rfl) _ rfl _ (eval_at 26 21 _ (by kernel_rfl) (show 26 < 27 by decide) (hF 21 (by kernel_rfl))) ⟨_, rfl, rfl, Below.refl _ _⟩
    | n + 23, ho => simp at ho
  · intro z w1 hR hF
    have h22 : z 22 = .int .i64 (orderF x y) := hF 22 (by decide)
    have hb := HD.out w1 hR
    simp only [putAll, Act.put, List.setIfInBounds_toArray, List.set_cons_succ, List.set_cons_zero]
    go_wp2_with fail
    go_ret
    refine ⟨?_, hb⟩
    exact congrArg Ending.returned h22
end Go.Proofs.YtbbdokfankgllaaGreatDoor
