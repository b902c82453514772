/- slices.BinarySearchFunc at watches, with order. No conditions beyond those in each statement. -/
import Derived.Test.YtbbdokfankgllaaGreatDoorWOrder
import Derived.Deep.DeepCutAuto
namespace Go.Proofs.YtbbdokfankgllaaGreatDoor
open Go.RowKit
set_option linter.unusedVariables false
set_option maxRecDepth 100000

/-- The watches of a slice can be read. -/
def WaRd (w : World) (p : Option Addr) (L : List Wa) : Prop :=
  ∀ j x, L[j]? = some x → ∃ g, p = some ⟨g, 0, none⟩ ∧ g < w.heap.size ∧ w.cell? ⟨g, j * 4, none⟩ = some (.int .i64 x.ses) ∧ w.cell? ⟨g, j * 4 + 1, none⟩ = some (.string x.path) ∧ w.cell? ⟨g, j * 4 + 2, none⟩ = some (.bool x.kids) ∧ w.cell? ⟨g, j * 4 + 3, none⟩ = some (.bool x.once)
theorem WaRd.below {w w' : World} {p : Option Addr} {L : List Wa} (h : WaRd w p L) (hb : Below w.heap.size w w') : WaRd w' p L := fun j x hx => by
  obtain ⟨g, h0, h1, h2, h3, h4, h5⟩ := h j x hx
  exact ⟨g, h0, Nat.lt_of_lt_of_le h1 hb.size, (hb.cell (p := ⟨g, _, none⟩) h1).trans h2, (hb.cell (p := ⟨g, _, none⟩) h1).trans h3, (hb.cell (p := ⟨g, _, none⟩) h1).trans h4, (hb.cell (p := ⟨g, _, none⟩) h1).trans h5⟩
theorem gstep_callv2 {P : Program} {Q : Exit → Act → World → Prop} {l : List Oper} {i : Nat} {o : Oper} {a : Act} {w : World} {K : Act → World → Prop} (ho : l[i]? = some o) (hw : WantedIs l a o true) (s0 s1 s2 : Operand) (ts : Array TypeId) (hop : o.op = .call { callee := .value s0, args := #[s1, s2], argTypes := ts }) (f : FuncId) (h0 : a.eval s0 = .func (.func f) #[] #[]) (v1 v2 : Value) (he1 : a.eval s1 = v1) (he2 : a.eval s2 = v2) (hf : (callFunc f #[v1, v2]).run P w = .ok (.enter f #[v1, v2]) w)
    (h : Calls P f #[v1, v2] w fun e w'' => ∃ v, e = .returned v ∧ K (a.put o.dst v) w'') : Step P l Q i K a w :=
  gstep_enter ho hw f #[v1, v2] w (by simp only [execOp, hop, resolve, invoke, Deferred.ofValue, h0, List.map_toArray, List.map_cons, List.map_nil, he1, he2, Sem.run_bind, Sem.run_pure, Result.andThen_ok]; simpa using hf) h
theorem run_wix (W : World) (g n c i : Nat) (h : i < n) (hn : n ≤ 1000) : (Instr.indexAt 28 (.slice (some ⟨g, 0, none⟩) n c) (.int .i64 (i : Int))).run Tryz.prog W = .ok (.pointer (some ⟨g, i * 4, none⟩)) W := by
  have h1 : (i : Int) < (n : Int) := by omega
  have h0 : (0 : Int) ≤ (i : Int) := by omega
  go_simp
def Wa4 (W : World) (g o : Nat) (x : Wa) : Prop := W.cell? ⟨g, o, none⟩ = some (.int .i64 x.ses) ∧ W.cell? ⟨g, o + 1, none⟩ = some (.string x.path) ∧ W.cell? ⟨g, o + 2, none⟩ = some (.bool x.kids) ∧ W.cell? ⟨g, o + 3, none⟩ = some (.bool x.once)
theorem run_lwa (W : World) (g o : Nat) (x : Wa) (h : Wa4 W g o x) : (Instr.loadAt 49 (.pointer (some ⟨g, o, none⟩))).run Tryz.prog W = .ok (waV x) W := by
  obtain ⟨h0, h1, h2, h3⟩ := h
  unfold waV
  go_simp
theorem run_wlss (W : World) (z : Int) (b : Bool) (h : decide (z < 0) = b) (s1 s2 : Operand) : (do eqGuard .lss 3 s1 s2 (.int .i64 z) (.int .i64 0); binOp .lss 3 (.int .i64 z) (.int .i64 0) : Sem Value).run Tryz.prog W = .ok (.bool b) W := by subst h; go_simp
theorem run_wlsI (W : World) (y z : Int) (h : decide (y < z) = true) (s1 s2 : Operand) : (do eqGuard .lss 3 s1 s2 (.int .i64 y) (.int .i64 z); binOp .lss 3 (.int .i64 y) (.int .i64 z) : Sem Value).run Tryz.prog W = .ok (.bool true) W := by go_simp
theorem run_wlsF (W : World) (y z : Int) (h : decide (y < z) = false) (s1 s2 : Operand) : (do eqGuard .lss 3 s1 s2 (.int .i64 y) (.int .i64 z); binOp .lss 3 (.int .i64 y) (.int .i64 z) : Sem Value).run Tryz.prog W = .ok (.bool false) W := by go_simp
theorem run_weq (W : World) (z : Int) (b : Bool) (h : (z == 0) = b) (s1 s2 : Operand) : (do eqGuard .eql 3 s1 s2 (.int .i64 z) (.int .i64 0); binOp .eql 3 (.int .i64 z) (.int .i64 0) : Sem Value).run Tryz.prog W = .ok (.bool b) W := by subst h; go_simp
theorem call_order (W : World) (v1 v2 : Value) : (callFunc 40 #[v1, v2]).run Tryz.prog W = .ok (.enter 40 #[v1, v2]) W := by kernel_rfl
/-- What the search finds: the first of those that are not before t. -/
structure Found (L : List Wa) (t : Wa) (i : Nat) : Prop where
  le : i ≤ L.length
  low : ∀ k x, k < i → L[k]? = some x → orderF x t < 0
  high : ∀ k x, i ≤ k → L[k]? = some x → ¬ orderF x t < 0
def isB (L : List Wa) (t : Wa) (i : Nat) : Bool := match L[i]? with
  | some x => orderF x t == 0
  | none => false
/-- What comes before t comes first. -/
def Mono (L : List Wa) (t : Wa) : Prop := ∀ (i j : Nat) (x y : Wa), i ≤ j → L[i]? = some x → L[j]? = some y → orderF y t < 0 → orderF x t < 0
def FB5 (t x : Wa) (g n cap h tbk : Nat) (b : Bool) : Nat → Value → World → Prop
  | 0, v, _ => v = .func (.func 40) #[] #[]
  | 1, v, _ => v = .slice (some ⟨g, 0, none⟩) n cap
  | 2, v, _ => v = .int .i64 (h : Int)
  | 3, v, _ => v = .pointer (some ⟨g, h * 4, none⟩)
  | 4, v, _ => v = waV x
  | 5, v, _ => v = waV t
  | 6, v, _ => v = .int .i64 (orderF x t)
  | 7, v, _ => v = .bool b
  | _, _, _ => True
theorem FB5_keep {t x : Wa} {g n cap h tbk : Nat} {b : Bool} {v : Value} {w w' : World} : ∀ i : Nat, FB5 t x g n cap h tbk b i v w → FB5 t x g n cap h tbk b i v w'
  | 0, h => h
  | 1, h => h
  | 2, h => h
  | 3, h => h
  | 4, h => h
  | 5, h => h
  | 6, h => h
  | 7, h => h
  | _ + 8, _ => trivial
def FB8 (t x : Wa) (g n cap h tbk : Nat) (b : Bool) : Nat → Value → World → Prop
  | 0, v, _ => v = .int .i64 (h : Int)
  | 1, v, _ => v = .int .i64 (h : Int)
  | 2, v, _ => v = .int .i64 (n : Int)
  | 3, v, _ => v = .bool true
  | 4, v, _ => v = .bool true
  | 5, v, _ => v = .func (.func 40) #[] #[]
  | 6, v, _ => v = .slice (some ⟨g, 0, none⟩) n cap
  | 7, v, _ => v = .int .i64 (h : Int)
  | 8, v, _ => v = .pointer (some ⟨g, h * 4, none⟩)
  | 9, v, _ => v = waV x
  | 10, v, _ => v = waV t
  | 11, v, _ => v = .int .i64 (orderF x t)
  | 12, v, _ => v = .bool b
  | 13, v, _ => v = .bool b
  | 14, v, _ => v = .int .i64 (h : Int)
  | 15, v, _ => v = .bool b
  | _, _, _ => True
theorem FB8_keep {t x : Wa} {g n cap h tbk : Nat} {b : Bool} {v : Value} {w w' : World} : ∀ i : Nat, FB8 t x g n cap h tbk b i v w → FB8 t x g n cap h tbk b i v w'
  | 0, h => h
  | 1, h => h
  | 2, h => h
  | 3, h => h
  | 4, h => h
  | 5, h => h
  | 6, h => h
  | 7, h => h
  | 8, h => h
  | 9, h => h
  | 10, h => h
  | 11, h => h
  | 12, h => h
  | 13, h => h
  | 14, h => h
  | 15, h => h
  | _ + 16, _ => trivial
def FB9 (t x : Wa) (g n cap h tbk : Nat) (b : Bool) : Nat → Value → World → Prop
  | 0, v, _ => v = .int .i64 (h : Int)
  | 1, v, _ => v = .int .i64 (h : Int)
  | 2, v, _ => v = .int .i64 (n : Int)
  | 3, v, _ => v = .bool false
  | 4, v, _ => v = .bool false
  | 5, v, _ => v = undef
  | 6, v, _ => v = undef
  | 7, v, _ => v = undef
  | 8, v, _ => v = undef
  | 9, v, _ => v = undef
  | 10, v, _ => v = undef
  | 11, v, _ => v = undef
  | 12, v, _ => v = undef
  | 13, v, _ => v = .bool false
  | 14, v, _ => v = .int .i64 (h : Int)
  | 15, v, _ => v = .bool false
  | _, _, _ => True
theorem FB9_keep {t x : Wa} {g n cap h tbk : Nat} {b : Bool} {v : Value} {w w' : World} : ∀ i : Nat, FB9 t x g n cap h tbk b i v w → FB9 t x g n cap h tbk b i v w'
  | 0, h => h
  | 1, h => h
  | 2, h => h
  | 3, h => h
  | 4, h => h
  | 5, h => h
  | 6, h => h
  | 7, h => h
  | 8, h => h
  | 9, h => h
  | 10, h => h
  | 11, h => h
  | 12, h => h
  | 13, h => h
  | 14, h => h
  | 15, h => h
  | _ + 16, _ => trivial
set_option maxHeartbeats 8000000 in
theorem bs_any (p : Option Addr) (cap : Nat) (L : List Wa) (t : Wa) (w : World) (hL : L.length ≤ 1000) (hr : WaRd w p L) (hm : Mono L t) :
    Calls Tryz.prog 39 #[.slice p L.length cap, waV t, .func (.func 40) #[] #[]] w fun e w' => ∃ i : Nat, e = .returned (.tuple #[.int .i64 (i : Int), .bool (isB L t i)]) ∧ Found L t i ∧ Below w.heap.size w w' := by
  have HR := Lib.hid hr
  have HM := Lib.hid hm
  have b1 := (Below.refl w.heap.size w).alloc (Nat.le_refl _) (.cells #[.int .i64 t.ses, .string t.path, .bool t.kids, .bool t.once] 49)
  have N1 : WaB (w.alloc (.cells #[.int .i64 t.ses, .string t.path, .bool t.kids, .bool t.once] 49)) w.heap.size t := heap_alloc_new w _
  clear hr hm
  unfold waV
  go_enter Tryz.func39, Tryz.ntmps39
  go_wp2_with fail
  obtain ⟨tbk, htb⟩ : ∃ tbk, tbk = w.heap.size := ⟨_, rfl⟩
  rw [← htb] at N1 ⊢
  have HTB := Lib.hid htb
  clear htb
  go_loopw [9, 10] (fun iv jv wr => ∃ i j : Nat, i ≤ j ∧ j ≤ L.length ∧ iv = .int .i64 (i : Int) ∧ jv = .int .i64 (j : Int) ∧ Hid (∀ k x, k < i → L[k]? = some x → orderF x t < 0) ∧ Hid (∀ k x, j ≤ k → L[k]? = some x → ¬ orderF x t < 0) ∧ WaB wr tbk t ∧ Below w.heap.size w wr) (fun iv jv _ => (intOf jv).toNat - (intOf iv).toNat)
  case atStart => exact ⟨0, L.length, by omega, by omega, rfl, rfl, Lib.hid (fun k x h => by omega), Lib.hid (fun k x h hx => by have := (List.getElem?_eq_some_iff.1 hx).1; omega), N1, b1⟩
  case round =>
    obtain ⟨i, j, hij, hj, rfl, rfl, HLO, HHI, NT, bk⟩ := hrel
    clear N1 b1
    by_cases hlt : i < j
    · have e1 : decide ((i : Int) < (j : Int)) = true := by simp; omega
      obtain ⟨h, hh⟩ : ∃ h, h = (i + j) / 2 := ⟨_, rfl⟩
      have t1 : IntKind.i64.wrap ((i : Int) + (j : Int)) = ((i + j : Nat) : Int) := by rw [IntWalk.i64_in _ (by omega)]; omega
      go_upto_region 5 with fail
      have hhd : ((i : Int) + (j : Int)) / 2 = ((h : Nat) : Int) := by omega
      rw [hhd]
      have hhl : h < L.length := by omega
      obtain ⟨x, hx⟩ : ∃ x, L[h]? = some x := ⟨L[h], by simp [hhl]⟩
      obtain ⟨g, rfl, hgl, x0, x1, x2, x3⟩ := HR.out h x hx
      have HCE : Hid (∀ W : World, Below wr.drew.heap.size wr.drew W → Wa4 W g (h * 4) x ∧ Wa4 W tbk 0 t) := Lib.hid fun W hW => by
        have hW1 : Below wr.heap.size wr W := (Below.refl _ wr).drew.trans (hW.mono (Nat.le_refl _))
        obtain ⟨g', e', _, y0, y1, y2, y3⟩ := (HR.out.below (bk.trans (hW1.mono bk.size))) h x hx
        obtain rfl : g = g' := by injection e' with e'; injection e' with e' _ _
        exact ⟨⟨y0, y1, y2, y3⟩, (NT.below hW1).cells⟩
      have HIX : Hid (h < L.length) := Lib.hid hhl
      have HNL : Hid (L.length ≤ 1000) := Lib.hid hL
      have HX := Lib.hid hx
      have HBK := Lib.hid bk
      have HNT := Lib.hid NT
      have HIJ : Hid (i ≤ h ∧ h < j ∧ j ≤ L.length) := Lib.hid ⟨by omega, by omega, hj⟩
      have HD : Hid (∀ W : World, Below wr.drew.heap.size wr.drew W → Below wr.heap.size wr W) := Lib.hid fun W hW => (Below.refl _ wr).drew.trans (hW.mono (Nat.le_refl _))
      clear hx x0 x1 x2 x3 hh hhd hhl t1 bk NT hlt
      cases hbv : decide (orderF x t < 0)
      · have HBV : Hid (decide (orderF x t < 0) = false) := Lib.hid hbv
        clear hbv
        go_cut [31] (fun q wx => q = .bool false ∧ Below wr.heap.size wr wx)
        case first =>
          refine wp_region_steps (FB5 t x g L.length cap h tbk false) (fun w w' => Below w.heap.size w w') (by kernel_rfl) (by kernel_rfl) (by kernel_rfl) (Below.refl _ _) ?_ (fun u v w h1 h2 => h1.trans (h2.mono h1.size)) ?_ ?_
          · intro i v w w' _ h1 h2
            exact FB5_keep i h1
          · intro i o ho z w1 hR hF
            match i, ho with
            | 0, ho =>
              obtain rfl := Option.some.inj ho
              exact gstep_move rfl (wanted0 rfl) _ rfl _ (eval_of 2 _ (by kernel_rfl) rfl) ⟨_, rfl, rfl, Below.refl _ _⟩
            | 1, ho =>
              obtain rfl := Option.some.inj ho
              exact gstep_move rfl (wanted0 rfl) _ rfl _ (eval_of 0 _ (by kernel_rfl) rfl) ⟨_, rfl, rfl, Below.refl _ _⟩
            | 2, ho =>
              obtain rfl := Option.some.inj ho
              exact gstep_move rfl (wanted0 rfl) _ rfl _ (eval_of 11 _ (by kernel_rfl) rfl) ⟨_, rfl, rfl, Below.refl _ _⟩
            | 3, ho =>
              obtain rfl := Option.some.inj ho
              exact gstep_index rfl (wanted0 rfl) _ _ _ rfl _ _ (eval_at 25 1 _ (by kernel_rfl) (show 25 < 49 by decide) (hF 1 (by kernel_rfl))) (eval_at 26 2 _ (by kernel_rfl) (show 26 < 49 by decide) (hF 2 (by kernel_rfl))) _ (run_wix w1 _ _ _ _ HIX.out HNL.out) ⟨_, rfl, rfl, Below.refl _ _⟩
            | 4, ho =>
              obtain rfl := Option.some.inj ho
              exact gstep_load rfl (wanted0 rfl) _ _ rfl _ (eval_at 27 3 _ (by kernel_rfl) (show 27 < 49 by decide) (hF 3 (by kernel_rfl))) _ (run_lwa w1 _ _ _ (HCE.out w1 hR).1) ⟨_, rfl, rfl, Below.refl _ _⟩
            | 5, ho =>
              obtain rfl := Option.some.inj ho
              exact gstep_load rfl (wanted0 rfl) _ _ rfl _ (eval_of 4 _ (by kernel_rfl) rfl) _ (run_lwa w1 _ 0 _ (HCE.out w1 hR).2) ⟨_, rfl, rfl, Below.refl _ _⟩
            | 6, ho =>
              obtain rfl := Option.some.inj ho
              refine gstep_callv2 rfl (wanted0 rfl) _ _ _ _ rfl _ (eval_at 24 0 _ (by kernel_rfl) (show 24 < 49 by decide) (hF 0 (by kernel_rfl))) _ _ (eval_at 28 4 _ (by kernel_rfl) (show 28 < 49 by decide) (hF 4 (by kernel_rfl))) (eval_at 29 5 _ (by kernel_rfl) (show 29 < 49 by decide) (hF 5 (by kernel_rfl))) (call_order w1 _ _) ?_
              refine (order_any x t w1).mono ?_
              rintro e w2 ⟨rfl, hb⟩
              exact ⟨_, rfl, _, rfl, rfl, hb⟩
            | 7, ho =>
              obtain rfl := Option.some.inj ho
              exact gstep_bin rfl (wanted0 rfl) _ _ _ _ _ rfl _ _ (eval_at 30 6 _ (by kernel_rfl) (show 30 < 49 by decide) (hF 6 (by kernel_rfl))) rfl _ (run_wlss w1 _ _ HBV.out _ _) ⟨_, rfl, rfl, Below.refl _ _⟩
            | n + 8, ho => simp at ho
          · intro z w1 hR hF
            have h7 : z 7 = .bool false := hF 7 (by decide)
            have hb := HD.out w1 hR
            simp only [putAll, Act.put, List.setIfInBounds_toArray, List.set_cons_succ, List.set_cons_zero]
            go_wp2_with fail
            go_meet
            exact ⟨(by first | rfl | exact h7), hb⟩
        case rest =>
          obtain ⟨rfl, b9⟩ := hcut
          have NT9 := HNT.out.below b9
          have bk9 := HBK.out.trans (b9.mono HBK.out.size)
          clear b9
          go_wp2_with fail
          go_roundw
          case rel => exact ⟨i, h, HIJ.out.1, by have := HIJ.out; omega, rfl, rfl, HLO, Lib.hid (fun k y hk hy hlt => by
            have := HM.out h k x y hk HX.out hy hlt
            have h2 := HBV.out
            simp at h2; omega), NT9, bk9⟩
          case measure => have := HIJ.out; simp [intOf]; omega
      · have HBV : Hid (decide (orderF x t < 0) = true) := Lib.hid hbv
        clear hbv
        go_cut [31] (fun q wx => q = .bool true ∧ Below wr.heap.size wr wx)
        case first =>
          refine wp_region_steps (FB5 t x g L.length cap h tbk true) (fun w w' => Below w.heap.size w w') (by kernel_rfl) (by kernel_rfl) (by kernel_rfl) (Below.refl _ _) ?_ (fun u v w h1 h2 => h1.trans (h2.mono h1.size)) ?_ ?_
          · intro i v w w' _ h1 h2
            exact FB5_keep i h1
          · intro i o ho z w1 hR hF
            match i, ho with
            | 0, ho =>
              obtain rfl := Option.some.inj ho
              exact gstep_move rfl (wanted0 rfl) _ rfl _ (eval_of 2 _ (by kernel_rfl) rfl) ⟨_, rfl, rfl, Below.refl _ _⟩
            | 1, ho =>
              obtain rfl := Option.some.inj ho
              exact gstep_move rfl (wanted0 rfl) _ rfl _ (eval_of 0 _ (by kernel_rfl) rfl) ⟨_, rfl, rfl, Below.refl _ _⟩
            | 2, ho =>
              obtain rfl := Option.some.inj ho
              exact gstep_move rfl (wanted0 rfl) _ rfl _ (eval_of 11 _ (by kernel_rfl) rfl) ⟨_, rfl, rfl, Below.refl _ _⟩
            | 3, ho =>
              obtain rfl := Option.some.inj ho
              exact gstep_index rfl (wanted0 rfl) _ _ _ rfl _ _ (eval_at 25 1 _ (by kernel_rfl) (show 25 < 49 by decide) (hF 1 (by kernel_rfl))) (eval_at 26 2 _ (by kernel_rfl) (show 26 < 49 by decide) (hF 2 (by kernel_rfl))) _ (run_wix w1 _ _ _ _ HIX.out HNL.out) ⟨_, rfl, rfl, Below.refl _ _⟩
            | 4, ho =>
              obtain rfl := Option.some.inj ho
              exact gstep_load rfl (wanted0 rfl) _ _ rfl _ (eval_at 27 3 _ (by kernel_rfl) (show 27 < 49 by decide) (hF 3 (by kernel_rfl))) _ (run_lwa w1 _ _ _ (HCE.out w1 hR).1) ⟨_, rfl, rfl, Below.refl _ _⟩
            | 5, ho =>
              obtain rfl := Option.some.inj ho
              exact gstep_load rfl (wanted0 rfl) _ _ rfl _ (eval_of 4 _ (by kernel_rfl) rfl) _ (run_lwa w1 _ 0 _ (HCE.out w1 hR).2) ⟨_, rfl, rfl, Below.refl _ _⟩
            | 6, ho =>
              obtain rfl := Option.some.inj ho
              refine gstep_callv2 rfl (wanted0 rfl) _ _ _ _ rfl _ (eval_at 24 0 _ (by kernel_rfl) (show 24 < 49 by decide) (hF 0 (by kernel_rfl))) _ _ (eval_at 28 4 _ (by kernel_rfl) (show 28 < 49 by decide) (hF 4 (by kernel_rfl))) (eval_at 29 5 _ (by kernel_rfl) (show 29 < 49 by decide) (hF 5 (by kernel_rfl))) (call_order w1 _ _) ?_
              refine (order_any x t w1).mono ?_
              rintro e w2 ⟨rfl, hb⟩
              exact ⟨_, rfl, _, rfl, rfl, hb⟩
            | 7, ho =>
              obtain rfl := Option.some.inj ho
              exact gstep_bin rfl (wanted0 rfl) _ _ _ _ _ rfl _ _ (eval_at 30 6 _ (by kernel_rfl) (show 30 < 49 by decide) (hF 6 (by kernel_rfl))) rfl _ (run_wlss w1 _ _ HBV.out _ _) ⟨_, rfl, rfl, Below.refl _ _⟩
            | n + 8, ho => simp at ho
          · intro z w1 hR hF
            have h7 : z 7 = .bool true := hF 7 (by decide)
            have hb := HD.out w1 hR
            simp only [putAll, Act.put, List.setIfInBounds_toArray, List.set_cons_succ, List.set_cons_zero]
            go_wp2_with fail
            go_meet
            exact ⟨(by first | rfl | exact h7), hb⟩
        case rest =>
          obtain ⟨rfl, b9⟩ := hcut
          have NT9 := HNT.out.below b9
          have bk9 := HBK.out.trans (b9.mono HBK.out.size)
          have t3 : IntKind.i64.wrap ((h : Int) + 1) = (h : Int) + 1 := IntWalk.i64_in _ (by have := HIJ.out; omega)
          clear b9
          go_wp2_with fail
          go_roundw
          case rel => exact ⟨h + 1, j, by have := HIJ.out; omega, HIJ.out.2.2, by go_num, rfl, Lib.hid (fun k y hk hy => by
            by_cases e : k = h
            · rw [e, HX.out] at hy; injection hy with hy; rw [← hy]; simpa using HBV.out
            · exact HM.out k h y x (by omega) hy HX.out (by simpa using HBV.out)), HHI, NT9, bk9⟩
          case measure => have := HIJ.out; simp [intOf]; omega
    · obtain rfl : i = j := by omega
      have e1 : decide ((i : Int) < (i : Int)) = false := by simp
      by_cases hin : i < L.length
      · obtain ⟨x, hx⟩ : ∃ x, L[i]? = some x := ⟨L[i], by simp [hin]⟩
        obtain ⟨g, rfl, hgl, x0, x1, x2, x3⟩ := HR.out i x hx
        have HCE : Hid (∀ W : World, Below wr.drew.heap.size wr.drew W → Wa4 W g (i * 4) x ∧ Wa4 W tbk 0 t) := Lib.hid fun W hW => by
          have hW1 : Below wr.heap.size wr W := (Below.refl _ wr).drew.trans (hW.mono (Nat.le_refl _))
          obtain ⟨g', e', _, y0, y1, y2, y3⟩ := (HR.out.below (bk.trans (hW1.mono bk.size))) i x hx
          obtain rfl : g = g' := by injection e' with e'; injection e' with e' _ _
          exact ⟨⟨y0, y1, y2, y3⟩, (NT.below hW1).cells⟩
        have HIX : Hid (i < L.length) := Lib.hid hin
        have HIXI : Hid (decide ((i : Int) < (L.length : Int)) = true) := Lib.hid (by simp; omega)
        have HNL : Hid (L.length ≤ 1000) := Lib.hid hL
        have HX := Lib.hid hx
        have HD : Hid (∀ W : World, Below wr.drew.heap.size wr.drew W → Below w.heap.size w W) := Lib.hid fun W hW => bk.trans (((Below.refl _ wr).drew.trans (hW.mono (Nat.le_refl _))).mono bk.size)
        obtain ⟨b, hb⟩ : ∃ b, b = isB L t i := ⟨_, rfl⟩
        have HBV : Hid ((orderF x t == 0) = b) := Lib.hid (by rw [hb]; unfold isB; rw [hx])
        have HF : Hid (Found L t i) := Lib.hid ⟨by omega, HLO.out, HHI.out⟩
        have HB := Lib.hid hb
        clear hx x0 x1 x2 x3 bk NT hin hb
        go_upto_region 8 with fail
        refine wp_region_steps (FB8 t x g L.length cap i tbk b) (fun w w' => Below w.heap.size w w') (by kernel_rfl) (by kernel_rfl) (by kernel_rfl) (Below.refl _ _) ?_ (fun u v w h1 h2 => h1.trans (h2.mono h1.size)) ?_ ?_
        · intro i v w w' _ h1 h2
          exact FB8_keep i h1
        · intro i o ho z w1 hR hF
          match i, ho with
          | 0, ho =>
            obtain rfl := Option.some.inj ho
            exact gstep_move rfl (wanted0 rfl) _ rfl _ (eval_of 9 _ (by kernel_rfl) rfl) ⟨_, rfl, rfl, Below.refl _ _⟩
          | 1, ho =>
            obtain rfl := Option.some.inj ho
            exact gstep_move rfl (wanted0 rfl) _ rfl _ (eval_of 9 _ (by kernel_rfl) rfl) ⟨_, rfl, rfl, Below.refl _ _⟩
          | 2, ho =>
            obtain rfl := Option.some.inj ho
            exact gstep_move rfl (wanted0 rfl) _ rfl _ (eval_of 8 _ (by kernel_rfl) rfl) ⟨_, rfl, rfl, Below.refl _ _⟩
          | 3, ho =>
            obtain rfl := Option.some.inj ho
            exact gstep_bin rfl (wanted0 rfl) _ _ _ _ _ rfl _ _ (eval_at 36 1 _ (by kernel_rfl) (show 36 < 49 by decide) (hF 1 (by kernel_rfl))) (eval_at 37 2 _ (by kernel_rfl) (show 37 < 49 by decide) (hF 2 (by kernel_rfl))) _ (run_wlsI w1 _ _ HIXI.out _ _) ⟨_, rfl, rfl, Below.refl _ _⟩
          | 4, ho =>
            obtain rfl := Option.some.inj ho
            exact gstep_move rfl (wanted0 rfl) _ rfl _ (eval_at 38 3 _ (by kernel_rfl) (show 38 < 49 by decide) (hF 3 (by kernel_rfl))) ⟨_, rfl, rfl, Below.refl _ _⟩
          | 5, ho =>
            obtain rfl := Option.some.inj ho
            exact gstep_move rfl (wanted_at 39 4 true _ true rfl (by kernel_rfl) (show 39 < 49 by decide) (hF 4 (by kernel_rfl)) rfl) _ rfl _ (eval_of 2 _ (by kernel_rfl) rfl) ⟨_, rfl, rfl, Below.refl _ _⟩
          | 6, ho =>
            obtain rfl := Option.some.inj ho
            exact gstep_move rfl (wanted_at 39 4 true _ true rfl (by kernel_rfl) (show 39 < 49 by decide) (hF 4 (by kernel_rfl)) rfl) _ rfl _ (eval_of 0 _ (by kernel_rfl) rfl) ⟨_, rfl, rfl, Below.refl _ _⟩
          | 7, ho =>
            obtain rfl := Option.some.inj ho
            exact gstep_move rfl (wanted_at 39 4 true _ true rfl (by kernel_rfl) (show 39 < 49 by decide) (hF 4 (by kernel_rfl)) rfl) _ rfl _ (eval_of 9 _ (by kernel_rfl) rfl) ⟨_, rfl, rfl, Below.refl _ _⟩
          | 8, ho =>
            obtain rfl := Option.some.inj ho
            exact gstep_index rfl (wanted_at 39 4 true _ true rfl (by kernel_rfl) (show 39 < 49 by decide) (hF 4 (by kernel_rfl)) rfl) _ _ _ rfl _ _ (eval_at 41 6 _ (by kernel_rfl) (show 41 < 49 by decide) (hF 6 (by kernel_rfl))) (eval_at 42 7 _ (by kernel_rfl) (show 42 < 49 by decide) (hF 7 (by kernel_rfl))) _ (run_wix w1 _ _ _ _ HIX.out HNL.out) ⟨_, rfl, rfl, Below.refl _ _⟩
          | 9, ho =>
            obtain rfl := Option.some.inj ho
            exact gstep_load rfl (wanted_at 39 4 true _ true rfl (by kernel_rfl) (show 39 < 49 by decide) (hF 4 (by kernel_rfl)) rfl) _ _ rfl _ (eval_at 43 8 _ (by kernel_rfl) (show 43 < 49 by decide) (hF 8 (by kernel_rfl))) _ (run_lwa w1 _ _ _ (HCE.out w1 hR).1) ⟨_, rfl, rfl, Below.refl _ _⟩
          | 10, ho =>
            obtain rfl := Option.some.inj ho
            exact gstep_load rfl (wanted_at 39 4 true _ true rfl (by kernel_rfl) (show 39 < 49 by decide) (hF 4 (by kernel_rfl)) rfl) _ _ rfl _ (eval_of 4 _ (by kernel_rfl) rfl) _ (run_lwa w1 _ 0 _ (HCE.out w1 hR).2) ⟨_, rfl, rfl, Below.refl _ _⟩
          | 11, ho =>
            obtain rfl := Option.some.inj ho
            refine gstep_callv2 rfl (wanted_at 39 4 true _ true rfl (by kernel_rfl) (show 39 < 49 by decide) (hF 4 (by kernel_rfl)) rfl) _ _ _ _ rfl _ (eval_at 40 5 _ (by kernel_rfl) (show 40 < 49 by decide) (hF 5 (by kernel_rfl))) _ _ (eval_at 44 9 _ (by kernel_rfl) (show 44 < 49 by decide) (hF 9 (by kernel_rfl))) (eval_at 45 10 _ (by kernel_rfl) (show 45 < 49 by decide) (hF 10 (by kernel_rfl))) (call_order w1 _ _) ?_
            refine (order_any x t w1).mono ?_
            rintro e w2 ⟨rfl, hb⟩
            exact ⟨_, rfl, _, rfl, rfl, hb⟩
          | 12, ho =>
            obtain rfl := Option.some.inj ho
            exact gstep_bin rfl (wanted_at 39 4 true _ true rfl (by kernel_rfl) (show 39 < 49 by decide) (hF 4 (by kernel_rfl)) rfl) _ _ _ _ _ rfl _ _ (eval_at 46 11 _ (by kernel_rfl) (show 46 < 49 by decide) (hF 11 (by kernel_rfl))) rfl _ (run_weq w1 _ _ HBV.out _ _) ⟨_, rfl, rfl, Below.refl _ _⟩
          | 13, ho =>
            obtain rfl := Option.some.inj ho
            exact gstep_pick rfl (wanted0 rfl) _ _ _ rfl true (eval_at 39 4 _ (by kernel_rfl) (show 39 < 49 by decide) (hF 4 (by kernel_rfl))) _ (by rw [if_pos rfl]; exact (eval_at 47 12 _ (by kernel_rfl) (show 47 < 49 by decide) (hF 12 (by kernel_rfl)))) ⟨_, rfl, rfl, Below.refl _ _⟩
          | 14, ho =>
            obtain rfl := Option.some.inj ho
            exact gstep_assign rfl (wanted0 rfl) _ rfl _ (eval_at 35 0 _ (by kernel_rfl) (show 35 < 49 by decide) (hF 0 (by kernel_rfl))) ⟨_, rfl, rfl, Below.refl _ _⟩
          | 15, ho =>
            obtain rfl := Option.some.inj ho
            exact gstep_assign rfl (wanted0 rfl) _ rfl _ (eval_at 48 13 _ (by kernel_rfl) (show 48 < 49 by decide) (hF 13 (by kernel_rfl))) ⟨_, rfl, rfl, Below.refl _ _⟩
          | n + 16, ho => simp at ho
        · intro z w1 hR hF
          have h14 : z 14 = .int .i64 (i : Int) := hF 14 (by decide)
          have h15 : z 15 = .bool b := hF 15 (by decide)
          have hb := HD.out w1 hR
          simp only [putAll, Act.put, List.setIfInBounds_toArray, List.set_cons_succ, List.set_cons_zero]
          go_wp2_with fail
          go_ret2
          refine ⟨i, congrArg Ending.returned ?_, HF.out, hb⟩
          rw [← HB.out]
          first | rfl | (exact congrArg Value.tuple (by rw [← h14, ← h15]; rfl))
      · obtain rfl : i = L.length := by omega
        have HF : Hid (Found L t L.length) := Lib.hid ⟨Nat.le_refl _, HLO.out, HHI.out⟩
        have HB : Hid (isB L t L.length = false) := Lib.hid (by unfold isB; rw [List.getElem?_eq_none (Nat.le_refl _)])
        clear hin
        have HIXI : Hid (decide ((L.length : Int) < (L.length : Int)) = false) := Lib.hid (by simp)
        have HD : Hid (∀ W : World, Below wr.drew.heap.size wr.drew W → Below w.heap.size w W) := Lib.hid fun W hW => bk.trans (((Below.refl _ wr).drew.trans (hW.mono (Nat.le_refl _))).mono bk.size)
        clear bk NT
        go_upto_region 8 with fail
        refine wp_region_steps (FB9 t t 0 L.length cap L.length tbk false) (fun w w' => Below w.heap.size w w') (by kernel_rfl) (by kernel_rfl) (by kernel_rfl) (Below.refl _ _) ?_ (fun u v w h1 h2 => h1.trans (h2.mono h1.size)) ?_ ?_
        · intro i v w w' _ h1 h2
          exact FB9_keep i h1
        · intro i o ho z w1 hR hF
          match i, ho with
          | 0, ho =>
            obtain rfl := Option.some.inj ho
            exact gstep_move rfl (wanted0 rfl) _ rfl _ (eval_of 9 _ (by kernel_rfl) rfl) ⟨_, rfl, rfl, Below.refl _ _⟩
          | 1, ho =>
            obtain rfl := Option.some.inj ho
            exact gstep_move rfl (wanted0 rfl) _ rfl _ (eval_of 9 _ (by kernel_rfl) rfl) ⟨_, rfl, rfl, Below.refl _ _⟩
          | 2, ho =>
            obtain rfl := Option.some.inj ho
            exact gstep_move rfl (wanted0 rfl) _ rfl _ (eval_of 8 _ (by kernel_rfl) rfl) ⟨_, rfl, rfl, Below.refl _ _⟩
          | 3, ho =>
            obtain rfl := Option.some.inj ho
            exact gstep_bin rfl (wanted0 rfl) _ _ _ _ _ rfl _ _ (eval_at 36 1 _ (by kernel_rfl) (show 36 < 49 by decide) (hF 1 (by kernel_rfl))) (eval_at 37 2 _ (by kernel_rfl) (show 37 < 49 by decide) (hF 2 (by kernel_rfl))) _ (run_wlsF w1 _ _ HIXI.out _ _) ⟨_, rfl, rfl, Below.refl _ _⟩
          | 4, ho =>
            obtain rfl := Option.some.inj ho
            exact gstep_move rfl (wanted0 rfl) _ rfl _ (eval_at 38 3 _ (by kernel_rfl) (show 38 < 49 by decide) (hF 3 (by kernel_rfl))) ⟨_, rfl, rfl, Below.refl _ _⟩
          | 5, ho =>
            obtain rfl := Option.some.inj ho
            exact gstep_skip rfl (wanted_at 39 4 true _ false rfl (by kernel_rfl) (show 39 < 49 by decide) (hF 4 (by kernel_rfl)) rfl) ⟨_, rfl, rfl, Below.refl _ _⟩
          | 6, ho =>
            obtain rfl := Option.some.inj ho
            exact gstep_skip rfl (wanted_at 39 4 true _ false rfl (by kernel_rfl) (show 39 < 49 by decide) (hF 4 (by kernel_rfl)) rfl) ⟨_, rfl, rfl, Below.refl _ _⟩
          | 7, ho =>
            obtain rfl := Option.some.inj ho
            exact gstep_skip rfl (wanted_at 39 4 true _ false rfl (by kernel_rfl) (show 39 < 49 by decide) (hF 4 (by kernel_rfl)) rfl) ⟨_, rfl, rfl, Below.refl _ _⟩
          | 8, ho =>
            obtain rfl := Option.some.inj ho
            exact gstep_skip rfl (wanted_at 39 4 true _ false rfl (by kernel_rfl) (show 39 < 49 by decide) (hF 4 (by kernel_rfl)) rfl) ⟨_, rfl, rfl, Below.refl _ _⟩
          | 9, ho =>
            obtain rfl := Option.some.inj ho
            exact gstep_skip rfl (wanted_at 39 4 true _ false rfl (by kernel_rfl) (show 39 < 49 by decide) (hF 4 (by kernel_rfl)) rfl) ⟨_, rfl, rfl, Below.refl _ _⟩
          | 10, ho =>
            obtain rfl := Option.some.inj ho
            exact gstep_skip rfl (wanted_at 39 4 true _ false rfl (by kernel_rfl) (show 39 < 49 by decide) (hF 4 (by kernel_rfl)) rfl) ⟨_, rfl, rfl, Below.refl _ _⟩
          | 11, ho =>
            obtain rfl := Option.some.inj ho
            exact gstep_skip rfl (wanted_at 39 4 true _ false rfl (by kernel_rfl) (show 39 < 49 by decide) (hF 4 (by kernel_rfl)) rfl) ⟨_, rfl, rfl, Below.refl _ _⟩
          | 12, ho =>
            obtain rfl := Option.some.inj ho
            exact gstep_skip rfl (wanted_at 39 4 true _ false rfl (by kernel_rfl) (show 39 < 49 by decide) (hF 4 (by kernel_rfl)) rfl) ⟨_, rfl, rfl, Below.refl _ _⟩
          | 13, ho =>
            obtain rfl := Option.some.inj ho
            exact gstep_pick rfl (wanted0 rfl) _ _ _ rfl false (eval_at 39 4 _ (by kernel_rfl) (show 39 < 49 by decide) (hF 4 (by kernel_rfl))) _ (by rw [if_neg (by decide)]; exact rfl) ⟨_, rfl, rfl, Below.refl _ _⟩
          | 14, ho =>
            obtain rfl := Option.some.inj ho
            exact gstep_assign rfl (wanted0 rfl) _ rfl _ (eval_at 35 0 _ (by kernel_rfl) (show 35 < 49 by decide) (hF 0 (by kernel_rfl))) ⟨_, rfl, rfl, Below.refl _ _⟩
          | 15, ho =>
            obtain rfl := Option.some.inj ho
            exact gstep_assign rfl (wanted0 rfl) _ rfl _ (eval_at 48 13 _ (by kernel_rfl) (show 48 < 49 by decide) (hF 13 (by kernel_rfl))) ⟨_, rfl, rfl, Below.refl _ _⟩
          | n + 16, ho => simp at ho
        · intro z w1 hR hF
          have h14 : z 14 = .int .i64 (L.length : Int) := hF 14 (by decide)
          have h15 : z 15 = .bool false := hF 15 (by decide)
          have hb := HD.out w1 hR
          simp only [putAll, Act.put, List.setIfInBounds_toArray, List.set_cons_succ, List.set_cons_zero]
          go_wp2_with fail
          go_ret2
          refine ⟨L.length, congrArg Ending.returned ?_, HF.out, hb⟩
          rw [HB.out]
          first | rfl | (exact congrArg Value.tuple (by rw [← h14, ← h15]; rfl))
end Go.Proofs.YtbbdokfankgllaaGreatDoor
