/- Law 6's Do: Append. No conditions beyond those in each statement. -/
import Derived.Test.YtigebaaldikeaaaDoorPlogDoC
namespace Go.Proofs.YtigebaaldikeaaaDoor
open Go.RowKit
set_option linter.unusedVariables false
set_option maxRecDepth 100000

section
variable {m wb : Nat} {w : World} {E : Nat → Prop} {B b bt bd cnt : Nat} {D : Dv} {first : Int} {xs : List En} {va vm : Value}
theorem WlIn.setM (h : WlIn m wb w E B b bt bd D first xs cnt va vm) (v : Value) : WlIn m wb (w.setCell ⟨wb, 4, none⟩ v) E B b bt bd D first xs cnt va v :=
  ⟨h.lw.setOut h.but h.mwb 4 _, h.wld.setMaybe _, h.all.setW h.wld h.cap 4 _, h.cap, h.but, h.mwb, Nat.le_trans h.size (by simp), h.pure⟩
theorem EnA.of_ens {F : Nat → Prop} {w : World} {v : Value} {ys : List En} (h : EnS F w v ys) : EnA F w v ys := by
  obtain ⟨a, cap, hv, hn, h⟩ := h
  refine ⟨a, cap, hv, hn, h.imp id (fun ⟨g, ha, hg, hl, hc⟩ => ⟨g, 0, ha, hg, hl, fun j x hx => by simpa using hc j x hx⟩)⟩
theorem wpList_app0 {ops : Array Oper} {rest : List Oper} {o : Oper} {a : Act} {Q : Exit → Act → World → Prop} {w : World} (hgd : o.guard = none) (s x : Operand) (ho : o.op = .call { callee := .builtin .append, args := #[s, x], argTypes := #[50, 50] })
    (p q : Option Addr) (n c c2 : Nat) (hnc : n ≤ c) (hs : a.eval s = .slice p n c) (hx : a.eval x = .slice q 0 c2) (h : wpList Tryd.prog ops Q rest (a.put o.dst (.slice p n c)) w) : wpList Tryd.prog ops Q (o :: rest) a w := by
  refine wpList_plain hgd fun K hK => ?_
  have hrun := run_app0 w o.type p q n c c2 hnc
  unfold Oper.wp
  simp [execOp, ho, resolve, invoke, builtin, hs, hx, hrun, Result.andThen]
  exact hK _ _ h
/-- What stands behind the growth of what should be there. -/
structure ApS (m wb : Nat) (w3 w5 : World) (B b bt bd : Nat) (D : Dv) (first : Int) (zs : List En) (cnt : Nat) (v : Value) (F : Nat → Prop) (va vb vm fv : Value) (xs ys : List En) (g : Nat) (q : Ac6) : Prop where
  wl : ∃ E4, WlIn m wb w5 E4 B b bt bd D first zs cnt v vm
  xs : EnA F w5 va xs
  ys : EnA F w5 vb ys
  act : ActB w5 g q fv
  below : Below m w3 w5
set_option maxHeartbeats 4000000 in
theorem do6_app (h : WlIn m wb w E B b bt bd D first xs cnt va vm) (hm : m ≤ w.heap.size) (ht : ∀ x, Below m w x → Tabs x) (q : Ac6) (fv : Value) (hf : q.fall = 0) (U : Int) (hU : IntKind.u64.wrap q.k = U) (kk : Nat) (hkk : U.tmod 7 = (kk : Int)) (hkk3 : kk ≤ 3) (C : Nat) (hc : cnt ≤ C ∧ 20000 ≤ C ∧ C ≤ 700000000) (h1000 : first ≤ 1000) (hd : q.data.size ≤ 200) :
    Calls Tryd.prog 21 #[.pointer (some ⟨wb, 0, none⟩), actV q fv] w fun e w' => e = .returned (.bool true) ∧ DoRel m wb w first C w' := by
  have hfi := h.lw.neat.ents.fits
  have hf1 := h.lw.neat.ents.first
  have hhi := h.lw.neat.ents.high
  simp only at hfi hf1 hhi
  have hx8 : (xs.length : Int) ≤ 8 := hfi
  obtain ⟨q0, hq0⟩ : ∃ z : Int, z = q.n % 4 := ⟨_, rfl⟩
  obtain ⟨nn, hnn⟩ : ∃ n : Nat, (n : Int) = q0 := ⟨q0.toNat, by omega⟩
  have hn3 : nn ≤ 3 := by omega
  obtain ⟨a, cap, rfl, hcap, hnone, hspot⟩ := h.cap
  have HEN := Lib.hid (fun (W : World) (V : WldB W wb B b first (.slice a xs.length cap) vm) => ents_any q fv nn V rfl (by omega) ⟨hf1, h1000⟩ (by omega) hd)
  have HOK := Lib.hid (fun (j : Nat) => entE_ok q (first + (xs.length : Int)) j hd)
  have HHd := Lib.hid hd
  unfold actV at HEN
  obtain ⟨qk, qn, qt, qb, qf, qd⟩ := q
  simp only at hf hU HEN
  subst hf
  obtain ⟨ys, hys⟩ : ∃ ys, ys = entsA ⟨qk, qn, qt, qb, 0, qd⟩ (first + (xs.length : Int)) nn := ⟨_, rfl⟩
  have hyl : ys.length = nn := by rw [hys, entsA_length]
  have hyok : ∀ (j : Nat) (y : En), ys[j]? = some y → y.index = first + (xs.length : Int) + (j : Int) ∧ y.ok = true := by
    intro j y hy
    rw [hys] at hy
    obtain ⟨_, rfl⟩ := entsA_at _ _ _ _ _ hy
    exact ⟨rfl, HOK.out j⟩
  rw [← hys] at HEN
  have B1 := (Below.refl w.heap.size w).alloc (Nat.le_refl _) (.cells #[.int .i64 qk, .int .i64 qn, .int .i64 qt, .int .i64 qb, .int .i64 0, .string qd, fv] 46)
  have A1 := ActB.new w ⟨qk, qn, qt, qb, 0, qd⟩ fv
  have W1 := h.growAll B1
  have AB := act_but h A1.lt
  have HT := Lib.hid ht
  have HYO := Lib.hid hyok
  have HYL := Lib.hid hyl
  clear h ht hq0 hnn hys hyok HOK hd hyl
  unfold actV
  go_enter Tryd.func21, Tryd.ntmps21
  go_upto_region 1 with fail
  generalize w.alloc (.cells #[.int .i64 qk, .int .i64 qn, .int .i64 qt, .int .i64 qb, .int .i64 0, .string qd, fv] 46) = w1 at W1 A1 B1 AB ⊢
  obtain ⟨p0, p1, p2, p3, p4, p5, p6⟩ := A1.cells
  obtain ⟨⟨c0, c1, c2, c3, c4⟩, f0, f1, f2, f3, f4⟩ := W1.wld.cells
  simp only at p0 p1 p2 p3 p4 p5 p6
  have B1m := B1.mono hm
  have hmw := W1.mwb
  have e7 : IntKind.u64.wrap (kk : Int) = (kk : Int) := by rw [IntKind.wrap_u64]; omega
  have e8 : IntKind.i64.wrap (kk : Int) = (kk : Int) := IntWalk.i64_in _ (by omega)
  have e9 : (kk : Int) < 4 := by omega
  have e10 : decide ((kk : Int) < 4) = true := by simpa using e9
  have e11 : ((kk : Int) == 6) = false := by simp; omega
  have HW1 := Lib.hid W1
  clear W1 B1
  go_wp2_with fail
  refine (HEN.out w1 HW1.out.wld).mono ?_
  rintro e w2 ⟨v2, rfl, hown2, hb2⟩
  rw [← HYL.out] at hown2
  have S2 : EnS (Made _ b bt bd w1 w2) w2 v2 ys := ens_row (F := Made (fun j => E j ∨ (w.heap.size ≤ j ∧ j < w1.heap.size)) b bt bd w1 w2) hown2 (by have := HYL.out; omega) (fun g h1 h2 => Or.inr ⟨h1, h2⟩)
  obtain ⟨a2, cap2, rfl, _, hr2⟩ := id S2
  have V2 := HW1.out.wld.below hb2
  have r1 := V2.cells.1.2.1
  have HR2 := Lib.hid hr2
  clear hr2
  have HS2 := Lib.hid S2
  have HB2 := Lib.hid hb2
  have HV2 := Lib.hid V2
  have A2 := A1.below hb2
  have hnF : ∀ y ∈ ys, y.Fits := by
    intro y hy
    obtain ⟨j, hj⟩ := List.getElem?_of_mem hy
    obtain ⟨h1, h2⟩ := HYO.out j y hj
    have hjl := (List.getElem?_eq_some_iff.1 hj).1
    unfold En.ok at h2
    have h3 := of_decide_eq_true h2
    have h4 := HYL.out
    exact ⟨by omega, by omega, by unfold maxLen; omega⟩
  have HNF := Lib.hid hnF
  have hms1 := HW1.out.size
  have HBM := Lib.hid (fun (x : World) (hx : Below m w1 x) => HT.out x (B1m.trans hx))
  have hcnt : cnt < 900000000 := by omega
  clear hnF S2 hb2 V2 hown2
  by_cases hfull : 8 - (xs.length : Int) < (nn : Int)
  · have HAP := Lib.hid (lw_appX HW1.out.lw (by decide) w2 HB2.out _ ys HS2.out HNF.out 4 (by decide) (app_full (by rw [HYL.out]; exact hfull)) hms1 HBM.out hcnt)
    have eg : decide (8 - (xs.length : Int) < (ys.length : Int)) = true := by rw [HYL.out]; simpa using hfull
    have eg2 : 8 - (xs.length : Int) < (ys.length : Int) := by rw [HYL.out]; exact hfull
    have ew : IntKind.i64.wrap (8 - (xs.length : Int)) = 8 - (xs.length : Int) := IntWalk.i64_in _ (by omega)
    go_wp2_with fail
    refine HAP.out.mono ?_
    rintro e w3 ⟨rfl, L3, hb3, hk3⟩
    have V3 := HV2.out.keep hk3 (Or.inl HW1.out.but)
    have A3 := A2.cells
    have W3 : WlIn m wb w3 _ B b bt bd D first xs (cnt + ys.length) (.slice a xs.length cap) vm := ⟨L3, V3, ((HW1.out.below HB2.out).all.keep hk3 (fun j hj => Or.inl hj) hb3.size).widen (fun j hj => ⟨.inl hj.1, hj.2⟩), HW1.out.cap, ⟨.inl HW1.out.but.1, HW1.out.but.2⟩, hmw, Nat.le_trans (Nat.le_trans hms1 HB2.out.size) hb3.size, HW1.out.pure⟩
    have u3 := V3.cells.1.2.2.2.1
    have B3 := B1m.trans ((HB2.out.mono hms1).trans hb3)
    have HW3 := Lib.hid W3
    clear W3 L3 V3 hb3 hk3 A3
    go_wp2_with fail
    go_ret
    refine ⟨rfl, first, xs, ⟨_, _, _, _, _, _, _, _, HW3.out.mono ?_⟩, by omega, B3⟩
    have := HYL.out
    omega
  · have HAP := Lib.hid (lw_appW HW1.out.lw (by decide) w2 HB2.out _ ys HS2.out HYO.out (by have := HYL.out; omega) hms1 HBM.out hcnt)
    have eg : decide (8 - (xs.length : Int) < (ys.length : Int)) = false := by rw [HYL.out]; simpa using hfull
    have eg2 : ¬ 8 - (xs.length : Int) < (ys.length : Int) := by rw [HYL.out]; exact hfull
    have ew : IntKind.i64.wrap (8 - (xs.length : Int)) = 8 - (xs.length : Int) := IntWalk.i64_in _ (by omega)
    go_wp2_with fail
    refine HAP.out.mono ?_
    rintro e w3 ⟨rfl, ⟨D3, L3, hu3⟩, hb3, hk3⟩
    have V3 := HV2.out.keep hk3 (Or.inl HW1.out.but)
    have A3 : ActB w3 w.heap.size ⟨qk, qn, qt, qb, 0, qd⟩ fv := (hk3 _ (Or.inl AB)).trans A2
    have X3 := (HW1.out.below HB2.out).all.keep hk3 (fun j hj => Or.inl hj) hb3.size
    have Y3 : EnA _ w3 (.slice a2 ys.length cap2) ys := (EnA.of_ens HS2.out).keep hk3 (fun _ h => h) hb3.size
    have u3 := V3.cells.1.2.2.2.1
    have B3 := B1m.trans ((HB2.out.mono hms1).trans hb3)
    have hms3 : m ≤ w3.heap.size := Nat.le_trans (Nat.le_trans hms1 HB2.out.size) hb3.size
    have hbut3 : But (fun j => (E j ∨ w.heap.size ≤ j ∧ j < w1.heap.size) ∨ w1.heap.size ≤ j ∧ j < w2.heap.size) b bt bd wb := ⟨.inl HW1.out.but.1, HW1.out.but.2⟩
    have hun3 := hu3 HW1.out.pure
    have X3' : EnA (Made (fun j => E j ∨ (w.heap.size ≤ j ∧ j < w1.heap.size)) b bt bd w1 w2) w3 (.slice a xs.length cap) xs := X3.widen (fun j hj => Or.inl hj)
    have hne : ¬ w.heap.size = wb := fun e => by
      have hA := A3
      have hV := V3
      unfold ActB at hA
      unfold WldB at hV
      rw [e, hV] at hA
      simp at hA
    have hcp2 : CapS (.slice a xs.length cap) xs.length := HW1.out.cap
    by_cases h0 : ys.length = 0
    · obtain rfl : ys = [] := List.eq_nil_of_length_eq_zero h0
      have hcp3 : CapS (.slice a xs.length xs.length) xs.length := ⟨a, xs.length, rfl, Nat.le_refl _, fun e => by have := hnone e; omega, hspot⟩
      have X3c : EnA (But (fun j => (E j ∨ w.heap.size ≤ j ∧ j < w1.heap.size) ∨ w1.heap.size ≤ j ∧ j < w2.heap.size) b bt bd) w3 (.slice a xs.length xs.length) xs := by
        obtain ⟨a', c', hs, hx, hy⟩ := X3.widen (G := But (fun j => (E j ∨ w.heap.size ≤ j ∧ j < w1.heap.size) ∨ w1.heap.size ≤ j ∧ j < w2.heap.size) b bt bd) (fun j hj => ⟨.inl hj.1, hj.2⟩)
        have ha : a = a' := by injection hs
        subst ha
        exact ⟨a, xs.length, rfl, hx, hy⟩
      have W5 : WlIn m wb (w3.setCell ⟨wb, 3, none⟩ (.slice a xs.length xs.length)) (fun j => (E j ∨ w.heap.size ≤ j ∧ j < w1.heap.size) ∨ w1.heap.size ≤ j ∧ j < w2.heap.size) B b bt bd D3 first (xs ++ []) (cnt + 0) (.slice a xs.length xs.length) vm := by
        refine ⟨L3.setOut hbut3 hmw 3 _, V3.setAll _, ?_, ?_, hbut3, hmw, Nat.le_trans hms3 (by simp), hun3⟩
        · rw [List.append_nil]; exact X3c.setW V3 hcp2 3 _
        · rw [List.append_nil]; exact hcp3
      have W8 := W5.setM (.slice a xs.length xs.length)
      have A8 : ActB ((w3.setCell ⟨wb, 3, none⟩ (.slice a xs.length xs.length)).setCell ⟨wb, 4, none⟩ (.slice a xs.length xs.length)) w.heap.size ⟨qk, qn, qt, qb, 0, qd⟩ fv := (block_setCell_other hne).trans ((block_setCell_other hne).trans A3)
      have B8m : Below m w ((w3.setCell ⟨wb, 3, none⟩ (.slice a xs.length xs.length)).setCell ⟨wb, 4, none⟩ (.slice a xs.length xs.length)) := (B3.setCell (p := ⟨wb, 3, none⟩) hmw _).setCell (p := ⟨wb, 4, none⟩) hmw _
      obtain ⟨_, _, _, f3', f4'⟩ := V3.cells.2
      have u4 := V3.cells.1.2.2.2.2
      clear L3 V3 A3 X3 X3' Y3 hb3 hk3 HAP hbut3 hun3 hu3 r1 c0 c1 c2 c3 c4 f0 f1 f2 f3 f4 p0 p1 p2 p3 p4 p5 p6 A1 A2 AB HEN W5 X3c
      go_upto_region 33 with (at_builtin; refine wpList_app0 rfl _ _ rfl a a2 xs.length xs.length cap2 (Nat.le_refl _) rfl rfl ?_)
      generalize (w3.setCell ⟨wb, 3, none⟩ (.slice a xs.length xs.length)).setCell ⟨wb, 4, none⟩ (.slice a xs.length xs.length) = w8 at W8 A8 B8m ⊢
      obtain ⟨t0, _, _, _, t4, _, _⟩ := A8.cells
      simp only at t0 t4
      have u0 := W8.wld.cells.1.1
      have HDN := Lib.hid (wl_down W8)
      have HSH := Lib.hid (wl_shows W8 (fun y hy => HT.out y (B8m.trans hy)) (by omega))
      have HLN : Hid ((xs ++ []).length ≤ 8) := by show (xs ++ []).length ≤ 8; simp; omega
      clear W8 A8
      go_wp2_with fail
      all_goals
        refine HDN.out.mono ?_
        rintro e w9 ⟨rfl, rfl⟩
        go_wp2_with fail
        refine HSH.out.mono ?_
        rintro e w9 ⟨rfl, W9, hb9⟩
        go_wp2_with fail
        go_ret
        exact ⟨rfl, first, xs ++ [], ⟨_, _, _, _, _, _, _, _, W9.mono (by have := HLN.out; omega)⟩, by omega, B8m.trans hb9⟩
    · obtain ⟨g2, rfl, _, hg2, _⟩ := HR2.out.resolve_left h0
      obtain ⟨i0, hi0, hz0, hz1, hz2⟩ := info_parts info_en
      have HG1 : Hid (∀ v4 w4, w4.ownsRow w3.heap.size 60 3 v4 (xs.length + ys.length) (enCells xs ++ enCells ys) → w3.grownBy w4 none →
          ∃ g4 cap4, v4 = .slice (some ⟨g4, 0, none⟩) (xs.length + ys.length) cap4 ∧ WldB w4 wb B b first (.slice a xs.length cap) vm ∧
            ApS m wb w3 (w4.setCell ⟨wb, 3, none⟩ (.slice (some ⟨g4, 0, none⟩) (xs.length + ys.length) cap4)) B b bt bd D3 first (xs ++ ys) (cnt + ys.length) (.slice (some ⟨g4, 0, none⟩) (xs.length + ys.length) cap4) (Made (fun j => E j ∨ (w.heap.size ≤ j ∧ j < w1.heap.size)) b bt bd w1 w2) (.slice a xs.length cap) (.slice (some ⟨g2, 0, none⟩) ys.length cap2) vm fv xs ys w.heap.size ⟨qk, qn, qt, qb, 0, qd⟩) := by
        intro v4 w4 hown hgrow
        have b34 : Below w3.heap.size w3 w4 := (Below.refl _ w3).grown hgrow (Nat.le_refl _) (fun j hj => by cases hj)
        have hl1 : (xs ++ ys).length = xs.length + ys.length := List.length_append
        have hyl3 := HYL.out
        rw [← hl1, ← enCells_append] at hown
        obtain ⟨g4, cap4, rfl, h4⟩ := wl_push L3 V3 hbut3 hmw hms3 hun3 b34 hown (by omega) (by omega) (Nat.le_refl _)
        rw [hl1] at h4 ⊢
        have V4 := V3.below b34
        have X4 := X3'.keep (w' := w4) (G := fun j => j < w3.heap.size) (fun j hj => b34.block j hj) (fun j hj => by rcases hj with hj | hj; exact Nat.lt_of_lt_of_le (HW1.out.lw.dev.lt j hj.1) (Nat.le_trans HB2.out.size hb3.size); exact Nat.lt_of_lt_of_le hj.2 hb3.size) b34.size
        have Y4 := Y3.keep (w' := w4) (G := fun j => j < w3.heap.size) (fun j hj => b34.block j hj) (fun j hj => by rcases hj with hj | hj; exact Nat.lt_of_lt_of_le (HW1.out.lw.dev.lt j hj.1) (Nat.le_trans HB2.out.size hb3.size); exact Nat.lt_of_lt_of_le hj.2 hb3.size) b34.size
        exact ⟨g4, cap4, rfl, V4, ⟨_, h4⟩, X4.setW V4 hcp2 3 _, Y4.setW V4 hcp2 3 _, (block_setCell_other hne).trans (A3.below b34), (b34.mono hms3).setCell (p := ⟨wb, 3, none⟩) hmw _⟩
      have hnn0 : a = none → xs.length = 0 ∧ xs.length = 0 := fun e => by have := hnone e; omega
      have hl8 := HYL.out
      have hrd1 := EnA.reads X3
      have hrd2 := EnA.reads Y3 _ rfl
      have HLX := Lib.hid (enCells_length xs)
      have HLY := Lib.hid (enCells_length ys)
      have HN0 := Lib.hid hnn0
      have HR1 := Lib.hid hrd1
      have HR3 := Lib.hid hrd2
      have HP0 : Hid (0 < ys.length ∧ xs.length + ys.length ≤ 10000) := by show 0 < ys.length ∧ xs.length + ys.length ≤ 10000; omega
      obtain ⟨_, _, _, f3', _⟩ := V3.cells.2
      clear L3 V3 A3 X3 X3' Y3 hb3 hk3 hnn0 hl8 hrd1 hrd2 HAP hbut3 hun3 hu3 r1 c0 c1 c2 c3 c4 f0 f1 f2 f3 f4 p0 p1 p2 p3 p4 p5 p6 A1 A2 AB HEN
      go_upto_region 15 with (at_builtin; refine wpList_append_grows w3 rfl _ _ _ rfl 60 i0 _ 3 32 und_ens hi0 hz0 hz1 hz2 rfl (by decide) a xs.length xs.length (enCells xs) rfl HN0.out HLX.out HR1.out ⟨g2, 0, none⟩ ys.length cap2 (enCells ys) rfl HLY.out HR3.out (enCells_one _) (by have := HP0.out; omega) (by have := HP0.out; unfold maxLen; omega) (by have := HP0.out; omega) ?_; intro v4 w4 hown4 hgrow4; obtain ⟨g4, cap4, rfl, V4, AP4⟩ := HG1.out v4 w4 hown4 hgrow4; have k3 := V4.cells.1.2.2.2.1; obtain ⟨_, _, _, k4, _⟩ := V4.cells.2)
      obtain ⟨E5, W5⟩ := AP4.wl
      obtain ⟨_, X5, Y5, A5, B5⟩ := AP4
      clear HG1 V4 k3 k4 hown4 hgrow4
      generalize w4.setCell ⟨wb, 3, none⟩ (.slice (some ⟨g4, 0, none⟩) (xs.length + ys.length) cap4) = w5 at W5 X5 Y5 A5 B5 ⊢
      have HR5 := Lib.hid (EnA.reads X5)
      have HR6 := Lib.hid (EnA.reads Y5 _ rfl)
      have HG2 : Hid (∀ v6 w6, w6.ownsRow w5.heap.size 60 3 v6 (xs.length + ys.length) (enCells xs ++ enCells ys) → w5.grownBy w6 none →
          ∃ g6 cap6, v6 = .slice (some ⟨g6, 0, none⟩) (xs.length + ys.length) cap6 ∧ WlIn m wb w6 E5 B b bt bd D3 first (xs ++ ys) (cnt + ys.length) (.slice (some ⟨g4, 0, none⟩) (xs.length + ys.length) cap4) vm ∧ ActB w6 w.heap.size ⟨qk, qn, qt, qb, 0, qd⟩ fv ∧ Below m w w6) := by
        intro v6 w6 hown hgrow
        have b56 : Below w5.heap.size w5 w6 := (Below.refl _ w5).grown hgrow (Nat.le_refl _) (fun j hj => by cases hj)
        have hl1 : (xs ++ ys).length = xs.length + ys.length := List.length_append
        have hp := HP0.out
        rw [← hl1, ← enCells_append] at hown
        obtain ⟨g6, cap6, rfl, _⟩ := row_en hown (by omega) (by omega)
        rw [hl1]
        exact ⟨g6, cap6, rfl, W5.below b56, A5.below b56, (B3.trans B5).trans (b56.mono W5.size)⟩
      have hs5 := W5.wld.cells.1.2.2.2.1
      clear W5 X5 Y5 A5
      go_upto_region 33 with (at_builtin; refine wpList_append_grows w5 rfl _ _ _ rfl 60 i0 _ 3 32 und_ens hi0 hz0 hz1 hz2 rfl (by decide) a xs.length xs.length (enCells xs) rfl HN0.out HLX.out HR5.out ⟨g2, 0, none⟩ ys.length cap2 (enCells ys) rfl HLY.out HR6.out (enCells_one _) (by have := HP0.out; omega) (by have := HP0.out; unfold maxLen; omega) (by have := HP0.out; omega) ?_; intro v6 w6 hown6 hgrow6; obtain ⟨g6, cap6, rfl, W6, A6, B6⟩ := HG2.out v6 w6 hown6 hgrow6; have k3 := W6.wld.cells.1.2.2.2.2; obtain ⟨_, _, _, _, k4⟩ := W6.wld.cells.2)
      have W8 := W6.setM (.slice (some ⟨g6, 0, none⟩) (xs.length + ys.length) cap6)
      have A8 : ActB (w6.setCell ⟨wb, 4, none⟩ (.slice (some ⟨g6, 0, none⟩) (xs.length + ys.length) cap6)) w.heap.size ⟨qk, qn, qt, qb, 0, qd⟩ fv := (block_setCell_other hne).trans A6
      have B8m := B6.setCell (p := ⟨wb, 4, none⟩) hmw (.slice (some ⟨g6, 0, none⟩) (xs.length + ys.length) cap6)
      clear W6 A6 B6 k3 k4 hown6 hgrow6 HG2
      generalize w6.setCell ⟨wb, 4, none⟩ (.slice (some ⟨g6, 0, none⟩) (xs.length + ys.length) cap6) = w8 at W8 A8 B8m ⊢
      obtain ⟨t0, _, _, _, t4, _, _⟩ := A8.cells
      simp only at t0 t4
      have u0 := W8.wld.cells.1.1
      have HDN := Lib.hid (wl_down W8)
      have HSH := Lib.hid (wl_shows W8 (fun y hy => HT.out y (B8m.trans hy)) (by have := HP0.out; have := HYL.out; omega))
      have HLN : Hid ((xs ++ ys).length ≤ 11 ∧ ys.length ≤ 3) := by show (xs ++ ys).length ≤ 11 ∧ ys.length ≤ 3; have := HYL.out; rw [List.length_append]; omega
      clear W8 A8
      go_wp2_with fail
      all_goals
        refine HDN.out.mono ?_
        rintro e w9 ⟨rfl, rfl⟩
        go_wp2_with fail
        refine HSH.out.mono ?_
        rintro e w9 ⟨rfl, W9, hb9⟩
        go_wp2_with fail
        go_ret
        exact ⟨rfl, first, xs ++ ys, ⟨_, _, _, _, _, _, _, _, W9.mono (by have := HLN.out; omega)⟩, by omega, B8m.trans hb9⟩
theorem do6_any (h : Wl m wb w first xs cnt) (hm : m ≤ w.heap.size) (ht : ∀ x, Below m w x → Tabs x) (q : Ac6) (fv : Value) (zs : List Int) (hz : ∀ x, Below m w x → Fts x fv zs) (hf : q.fall = 0) (hd : q.data.size ≤ 200) (C : Nat) (hc : cnt ≤ C ∧ 20000 ≤ C ∧ C ≤ 700000000) (h1000 : first ≤ 1000) :
    Calls Tryd.prog 21 #[.pointer (some ⟨wb, 0, none⟩), actV q fv] w fun e w' => e = .returned (.bool true) ∧ DoRel m wb w first C w' := by
  obtain ⟨E, B, b, bt, bd, D, va, vm, h⟩ := h
  obtain ⟨U, hU⟩ : ∃ U, IntKind.u64.wrap q.k = U := ⟨_, rfl⟩
  have hU0 : 0 ≤ U := by rw [← hU, IntKind.wrap_u64]; omega
  have hm7 : U.tmod 7 = U % 7 := Int.tmod_eq_emod_of_nonneg hU0
  by_cases h3 : U % 7 ≤ 3
  · exact do6_app h hm ht q fv hf U hU (U % 7).toNat (by rw [hm7]; omega) (by omega) C hc h1000 hd
  · by_cases h4 : U % 7 = 4
    · exact do6_cut h hm ht q fv hf U hU (by rw [hm7]; exact h4) C hc h1000
    · by_cases h5 : U % 7 = 5
      · exact do6_drop h hm ht q fv hf U hU (by rw [hm7]; exact h5) C hc h1000
      · exact do6_pow h hm ht q fv zs hz hf U hU (by rw [hm7]; omega) C hc
/-- What stands on the device. -/
theorem wl_blocks (h : WlIn m wb w E B b bt bd D first xs cnt va vm) (j : Nat) (x : En) (hx : xs[j]? = some x) : D.sread (3 + (first + (j : Int)) % 8) = (entR x, 1, 0) ∧ D.sread (11 + (first + (j : Int)) % 8) = (mkR x, 1, 0) := by
  obtain ⟨T, h1, h2, h3⟩ := h.lw
  have hi := h2.ents.idx j x hx
  simp only at hi
  have e1 := h2.lay.ent j x hx
  have e2 := h2.lay.mrk j x hx
  rw [if_pos (show yes j = true from rfl)] at e1 e2
  have a1 : ((⟨3, 8, first, (xs.length : Int)⟩ : Lg).at 2 x.index : Int) = 3 + (first + (j : Int)) % 8 := by
    unfold Lg.at Lg.blk
    simp only [hi]
    rw [if_neg (by decide)]
    omega
  have a2 : ((⟨3, 8, first, (xs.length : Int)⟩ : Lg).at 3 x.index : Int) = 11 + (first + (j : Int)) % 8 := by
    unfold Lg.at Lg.blk
    simp only [hi, if_true]
    omega
  have hl := h2.len
  refine ⟨?_, ?_⟩
  · rw [← a1, sread_cont h2.calm.toLive (by omega), e1]
  · rw [← a2, sread_cont h2.calm.toLive (by omega), e2]
theorem wl_sread (h : WlIn m wb w E B b bt bd D first xs cnt va vm) (ht : ∀ x, Below m w x → Tabs x) (i : Int) :
    Calls Tryd.prog 32 #[.pointer (some ⟨B, 0, none⟩), .int .i64 i] w fun e w' => e = .returned (sreadV (D.sread i)) ∧ Below w.heap.size w w' := by
  obtain ⟨T, h1, h2, h3⟩ := h.lw
  exact devw_sread i (ht w (Below.refl _ _)) (by rw [h2.calm.writes]; decide) h1.dev
end
end Go.Proofs.YtigebaaldikeaaaDoor
