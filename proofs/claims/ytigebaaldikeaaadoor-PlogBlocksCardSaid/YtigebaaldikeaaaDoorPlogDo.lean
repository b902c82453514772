/- Law 6's Do, of an act without a failure of the power under way. No conditions beyond those in each statement. -/
import Derived.Test.YtigebaaldikeaaaDoorPlogAct
namespace Go.Proofs.YtigebaaldikeaaaDoor
open Go.RowKit
set_option linter.unusedVariables false
set_option maxRecDepth 100000

section
variable {m wb : Nat} {w : World} {E : Nat → Prop} {B b bt bd cnt : Nat} {D : Dv} {first : Int} {xs : List En} {va vm : Value}
/-- What stands behind an act. -/
def DoRel (m wb : Nat) (w : World) (first : Int) (C : Nat) (w' : World) : Prop := ∃ f ys, Wl m wb w' f ys (C + 30) ∧ f ≤ first + 3 ∧ Below m w w'
theorem wl_down (h : WlIn m wb w E B b bt bd D first xs cnt va vm) : Calls Tryd.prog 41 #[.pointer (some ⟨B, 0, none⟩)] w fun e w' => e = .returned (.bool false) ∧ w = w' := by
  obtain ⟨T, h1, h2, h3⟩ := h.lw
  obtain ⟨S, hS, _⟩ := h1.dev
  have := down_any hS
  rw [h2.calm.down] at this
  exact this
theorem EnA.widen {F G : Nat → Prop} {w : World} {v : Value} {ys : List En} (h : EnA F w v ys) (hF : ∀ j, F j → G j) : EnA G w v ys := by
  obtain ⟨a, cap, hv, hn, h⟩ := h
  exact ⟨a, cap, hv, hn, h.imp id (fun ⟨g, off, ha, hg, r⟩ => ⟨g, off, ha, hF g hg, r⟩)⟩
theorem WlIn.growAll {W : World} (h : WlIn m wb w E B b bt bd D first xs cnt va vm) (hb : Below w.heap.size w W) : WlIn m wb W (fun j => E j ∨ (w.heap.size ≤ j ∧ j < W.heap.size)) B b bt bd D first xs cnt va vm :=
  ⟨h.lw.growAll hb, (h.below hb).wld, (h.below hb).all.widen (fun j hj => ⟨.inl hj.1, hj.2⟩), h.cap, ⟨.inl h.but.1, h.but.2⟩, h.mwb, (h.below hb).size, h.pure⟩
theorem act_but {W : World} (h : WlIn m wb w E B b bt bd D first xs cnt va vm) (hs : w.heap.size < W.heap.size) : But (fun j => E j ∨ (w.heap.size ≤ j ∧ j < W.heap.size)) b bt bd w.heap.size := by
  obtain ⟨_, l1, l2, l3⟩ := h.lw.own
  exact ⟨.inr ⟨Nat.le_refl _, hs⟩, by omega, by omega, by omega⟩
/-- A slice of entries from the n-th on. -/
def cutV (a : Option Addr) (len c n : Nat) : Value := .slice (if c = n then a else Option.map (fun x => Addr.add x (n * 3)) a) (len - n) (c - n)
theorem EnA.tailN {F : Nat → Prop} {w : World} {a : Option Addr} {c : Nat} {ys : List En} (h : EnA F w (.slice a ys.length c) ys) (n : Nat) (h1 : n ≤ ys.length) (hc : ys.length ≤ c) : EnA F w (cutV a ys.length c n) (ys.drop n) := by
  obtain ⟨a', cap, hs, hn, h⟩ := h
  have hl : (ys.drop n).length = ys.length - n := by simp
  have ha : a = a' := by injection hs
  subst ha
  rcases h with h | ⟨g, off, rfl, hg, hgl, hcs⟩
  · exact ⟨_, c - n, by rw [hl]; rfl, by omega, .inl (by omega)⟩
  · by_cases hcn : c = n
    · exact ⟨_, c - n, by rw [hl]; rfl, by omega, .inl (by omega)⟩
    · refine ⟨some ⟨g, off + n * 3, none⟩, c - n, ?_, by omega, .inr ⟨g, off + n * 3, rfl, hg, hgl, fun j x hx => ?_⟩⟩
      · unfold cutV
        rw [hl, if_neg hcn]
        simp [Addr.add]
      · have hx' : ys[n + j]? = some x := by rw [List.getElem?_drop] at hx; exact hx
        have := hcs (n + j) x hx'
        rw [show off + (n + j) * 3 = off + n * 3 + j * 3 by omega] at this
        exact this
theorem WlIn.tailN {w6 : World} {a : Option Addr} {c : Nat} (h : WlIn m wb w E B b bt bd D first xs cnt (.slice a xs.length c) vm) (n : Nat) (hnl : n ≤ xs.length)
    (hL : Lw m E w6 b B bt bd 19 3 8 (first + (n : Int)) (xs.drop n) cnt D) (hb : Below m w w6) (hk : Kept (But E b bt bd) w w6) :
    WlIn m wb (((w6.setCell ⟨wb, 2, none⟩ (.int .i64 (first + (n : Int)))).setCell ⟨wb, 3, none⟩ (cutV a xs.length c n)).setCell ⟨wb, 4, none⟩ (.slice none 0 0)) E B b bt bd D (first + (n : Int)) (xs.drop n) cnt (cutV a xs.length c n) (.slice none 0 0) ∧
    Below m w (((w6.setCell ⟨wb, 2, none⟩ (.int .i64 (first + (n : Int)))).setCell ⟨wb, 3, none⟩ (cutV a xs.length c n)).setCell ⟨wb, 4, none⟩ (.slice none 0 0)) := by
  have hl : (xs.drop n).length = xs.length - n := by simp
  obtain ⟨a2, c2, hs, hcc, hcn, hsp⟩ := h.cap
  have e2 : a = a2 ∧ c = c2 := by injection hs with x1 x2 x3; exact ⟨x1, x3⟩
  obtain ⟨rfl, rfl⟩ := e2
  have V6 := h.wld.keep hk h.but
  have A6 := h.all.keep hk (fun _ h => h) hb.size
  have A7 := A6.setW V6 h.cap 2 (.int .i64 (first + (n : Int)))
  have A8 := A7.setW (V6.setFirst (first + (n : Int))) h.cap 3 (cutV a xs.length c n)
  have V8 := (V6.setFirst (first + (n : Int))).setAll (cutV a xs.length c n)
  have A9 := A8.tailN n hnl hcc
  have hcp : CapS (cutV a xs.length c n) (xs.length - n) := by
    refine ⟨_, c - n, rfl, by omega, fun hh => ?_, fun b hb => ?_⟩
    · cases a with
      | none => have := hcn rfl; omega
      | some x => by_cases e : c = n
                  · omega
                  · rw [if_neg e] at hh; cases hh
    · cases a with
      | none => rw [show (if c = n then none else Option.map (fun x => Addr.add x (n * 3)) none : Option Addr) = none by split <;> rfl] at hb; cases hb
      | some x =>
        have hx := hsp x rfl
        obtain ⟨xb, xo, xsp⟩ := x
        simp only at hx
        subst hx
        by_cases e : c = n
        · rw [if_pos e] at hb; injection hb with hb; rw [← hb]
        · rw [if_neg e] at hb; injection hb with hb; rw [← hb]; simp only [Addr.add]; split <;> rfl
  have B7 := ((hb.setCell (p := ⟨wb, 2, none⟩) h.mwb (.int .i64 (first + (n : Int)))).setCell (p := ⟨wb, 3, none⟩) h.mwb (cutV a xs.length c n)).setCell (p := ⟨wb, 4, none⟩) h.mwb (.slice none 0 0)
  exact ⟨⟨((hL.setOut h.but h.mwb 2 _).setOut h.but h.mwb 3 _).setOut h.but h.mwb 4 _, V8.setMaybe _, A9.setW V8 hcp 4 _, by rw [hl]; exact hcp, h.but, h.mwb, Nat.le_trans h.size B7.size, h.pure⟩, B7⟩
set_option maxHeartbeats 4000000 in
theorem do6_pow (h : WlIn m wb w E B b bt bd D first xs cnt va vm) (hm : m ≤ w.heap.size) (ht : ∀ x, Below m w x → Tabs x) (q : Ac6) (fv : Value) (zs : List Int) (hz : ∀ x, Below m w x → Fts x fv zs) (hf : q.fall = 0) (U : Int) (hU : IntKind.u64.wrap q.k = U) (hkk : U.tmod 7 = 6) (C : Nat) (hc : cnt ≤ C ∧ 20000 ≤ C ∧ C ≤ 700000000) :
    Calls Tryd.prog 21 #[.pointer (some ⟨wb, 0, none⟩), actV q fv] w fun e w' => e = .returned (.bool true) ∧ DoRel m wb w first C w' := by
  obtain ⟨qk, qn, qt, qb, qf, qd⟩ := q
  simp only at hf hU
  subst hf
  have B1 := (Below.refl w.heap.size w).alloc (Nat.le_refl _) (.cells #[.int .i64 qk, .int .i64 qn, .int .i64 qt, .int .i64 qb, .int .i64 0, .string qd, fv] 46)
  have A1 := ActB.new w ⟨qk, qn, qt, qb, 0, qd⟩ fv
  have W1 := h.below B1
  have HT := Lib.hid ht
  have HZ := Lib.hid hz
  obtain ⟨a, cap, rfl, hcap, hnone, hspot⟩ := h.cap
  clear h hz ht
  unfold actV
  go_enter Tryd.func21, Tryd.ntmps21
  go_upto_region 1 with fail
  generalize w.alloc (.cells #[.int .i64 qk, .int .i64 qn, .int .i64 qt, .int .i64 qb, .int .i64 0, .string qd, fv] 46) = w1 at W1 A1 B1 ⊢
  obtain ⟨p0, p1, p2, p3, p4, p5, p6⟩ := A1.cells
  obtain ⟨⟨c0, c1, c2, c3, c4⟩, f0, f1, f2, f3, f4⟩ := W1.wld.cells
  simp only at p0 p1 p2 p3 p4 p5 p6
  have hlt := W1.wld.lt
  have B1m := B1.mono hm
  have hmw := W1.mwb
  have W2 : WlIn m wb (w1.setCell ⟨wb, 4, none⟩ (.slice none 0 0)) E B b bt bd D first xs cnt (.slice a xs.length cap) (.slice none 0 0) := ⟨W1.lw.setOut W1.but W1.mwb 4 _, W1.wld.setMaybe _, W1.all.setW W1.wld W1.cap 4 _, W1.cap, W1.but, W1.mwb, Nat.le_trans W1.size (by simp), W1.pure⟩
  have B2 : Below m w (w1.setCell ⟨wb, 4, none⟩ (.slice none 0 0)) := B1m.setCell (p := ⟨wb, 4, none⟩) hmw _
  have hne : ¬ wb = w.heap.size := by have := A1.cells; intro e; have hA := A1; rw [← e] at hA; have hW := W1.wld; unfold ActB at hA; unfold WldB at hW; rw [hA] at hW; simp at hW
  have hne2 : ¬ w.heap.size = wb := fun e => hne e.symm
  have HAG := Lib.hid (again_any W2 (fun x hx => HT.out x (B2.trans hx)) fv zs (HZ.out _ B2))
  clear W1 A1 B1
  have e7 : IntKind.u64.wrap (6 : Int) = 6 := by decide
  have e8 : IntKind.i64.wrap (6 : Int) = 6 := by decide
  clear W2
  go_wp2_with fail
  refine HAG.out.mono ?_
  rintro e w3 ⟨rfl, hW3, hb3⟩
  go_wp2_with fail
  go_ret
  obtain ⟨E3, B3, b3, bt3, bd3, D3, va3, vm3, W3⟩ := hW3
  exact ⟨rfl, first, xs, ⟨_, _, _, _, _, _, _, _, W3.mono (by omega)⟩, by omega, B2.trans hb3⟩
set_option maxHeartbeats 4000000 in
theorem do6_drop (h : WlIn m wb w E B b bt bd D first xs cnt va vm) (hm : m ≤ w.heap.size) (ht : ∀ x, Below m w x → Tabs x) (q : Ac6) (fv : Value) (hf : q.fall = 0) (U : Int) (hU : IntKind.u64.wrap q.k = U) (hkk : U.tmod 7 = 5) (C : Nat) (hc : cnt ≤ C ∧ 20000 ≤ C ∧ C ≤ 700000000) (h1000 : first ≤ 1000) :
    Calls Tryd.prog 21 #[.pointer (some ⟨wb, 0, none⟩), actV q fv] w fun e w' => e = .returned (.bool true) ∧ DoRel m wb w first C w' := by
  obtain ⟨qk, qn, qt, qb, qf, qd⟩ := q
  simp only at hf hU
  subst hf
  have hfi := h.lw.neat.ents.fits
  have hf1 := h.lw.neat.ents.first
  have hhi := h.lw.neat.ents.high
  simp only at hfi hf1 hhi
  have B1 := (Below.refl w.heap.size w).alloc (Nat.le_refl _) (.cells #[.int .i64 qk, .int .i64 qn, .int .i64 qt, .int .i64 qb, .int .i64 0, .string qd, fv] 46)
  have A1 := ActB.new w ⟨qk, qn, qt, qb, 0, qd⟩ fv
  have W1 := h.growAll B1
  have AB := act_but h A1.lt
  have HT := Lib.hid ht
  obtain ⟨a, cap, rfl, hcap, hnone, hspot⟩ := h.cap
  obtain ⟨q0, hq0⟩ : ∃ z : Int, z = qb % 4 := ⟨_, rfl⟩
  obtain ⟨nb, hnb⟩ : ∃ n : Nat, (n : Int) = q0 := ⟨q0.toNat, by omega⟩
  have hb4 : bits .and .i64 qb 3 = (nb : Int) := by rw [i64_and3, hnb, hq0]
  have hnb3 : nb ≤ 3 := by omega
  obtain ⟨n, hn⟩ : ∃ n, n = min nb xs.length := ⟨_, rfl⟩
  have hn3 : n ≤ 3 ∧ n ≤ xs.length := by omega
  have e1 : min (nb : Int) (xs.length : Int) = (n : Int) := by omega
  have e2 : IntKind.i64.wrap (first + (n : Int)) = first + (n : Int) := IntWalk.i64_in _ (by omega)
  have hx8 : (xs.length : Int) ≤ 8 := hfi
  clear h ht hq0 hnb hn
  unfold actV
  go_enter Tryd.func21, Tryd.ntmps21
  go_upto_region 1 with fail
  generalize w.alloc (.cells #[.int .i64 qk, .int .i64 qn, .int .i64 qt, .int .i64 qb, .int .i64 0, .string qd, fv] 46) = w1 at W1 A1 B1 AB ⊢
  obtain ⟨p0, p1, p2, p3, p4, p5, p6⟩ := A1.cells
  obtain ⟨⟨c0, c1, c2, c3, c4⟩, f0, f1, f2, f3, f4⟩ := W1.wld.cells
  simp only at p0 p1 p2 p3 p4 p5 p6
  have B1m := B1.mono hm
  have hmw := W1.mwb
  have e7 : IntKind.u64.wrap (5 : Int) = 5 := by decide
  have e8 : IntKind.i64.wrap (5 : Int) = 5 := by decide
  have bdd : Below w1.heap.size w1 w1.drew.drew := ((Below.refl _ w1).drew).drew
  have V1d : WldB w1.drew.drew wb B b first (.slice a xs.length cap) vm := W1.wld
  have hn1 : first + (n : Int) + 8 ≤ 281474976710655 := by omega
  have HDP := Lib.hid (lw_drop (W1.lw.below bdd) (by decide) (f := first + (n : Int)) (by omega) (by omega) hn1 (Nat.le_trans W1.size (Nat.le_refl _)))
  have HW1 := Lib.hid W1
  clear W1 B1
  go_wp2_with fail
  go_cut [11] (fun v wx => v = .int .i64 (n : Int) ∧ wx = w1.drew)
  case first =>
    go_region_held3 (fun w' => w'.cell? ⟨w.heap.size, 3, none⟩ = some (.int .i64 qb) ∧ w'.cell? ⟨wb, 3, none⟩ = some (.slice a xs.length cap)) (first | (with_reducible assumption) | (refine ⟨?_, ?_⟩ <;> with_reducible assumption) | go_keep) (fail)
    all_goals (go_wp2_with fail; go_meet)
    all_goals exact ⟨rfl, rfl⟩
  case rest =>
    obtain ⟨rfl, rfl⟩ := hcut
    have q0 : w1.drew.cell? ⟨wb, 1, none⟩ = some (.pointer (some ⟨b, 0, none⟩)) := c1
    have q1 : w1.drew.cell? ⟨wb, 2, none⟩ = some (.int .i64 first) := c2
    go_wp2_with fail
    go_region_held3 (fun w' => w'.cell? ⟨wb, 1, none⟩ = some (.pointer (some ⟨b, 0, none⟩)) ∧ w'.cell? ⟨wb, 2, none⟩ = some (.int .i64 first)) (first | (with_reducible assumption) | (refine ⟨?_, ?_⟩ <;> with_reducible assumption) | go_keep)
      ((go_at_call 40; refine HDP.out.mono ?_; rintro e w6 ⟨rfl, L6, hb6, hk6⟩; have V6 := V1d.keep hk6 HW1.out.but; have r1 := V6.cells.1.2.1; have r2 := V6.cells.1.2.2.1))
    have A6 : ActB w6 w.heap.size ⟨qk, qn, qt, qb, 0, qd⟩ fv := (hk6 _ AB).trans A1
    have en : (first + (n : Int) - first).toNat = n := by omega
    rw [en] at L6
    obtain ⟨W8, B8⟩ := HW1.out.tailN n hn3.2 L6 (((Below.refl _ w1).drew.drew).trans hb6) (fun j hj => hk6 j hj)
    have HA6 := Lib.hid A6
    have HV6 := Lib.hid V6
    obtain ⟨_, _, g2, g3, g4⟩ := V6.cells.2
    have y1 : ¬ wb = w.heap.size := fun e => by
      have hA := A6
      have hV := V6
      unfold ActB at hA
      unfold WldB at hV
      rw [← e, hV] at hA
      simp at hA
    have y2 : ¬ w.heap.size = wb := fun e => y1 e.symm
    have r3 := V6.cells.1.2.2.2.1
    have r4 := V6.cells.1.2.2.2.2
    have r0 := V6.cells.1.1
    obtain ⟨s0, _, _, _, s4, _, _⟩ := A6.cells
    simp only at s0 s4
    have d1 : (n : Int) ≤ (xs.length : Int) := by omega
    have d2 : (0 : Int) ≤ (n : Int) := by omega
    have d3 : (n : Int) ≤ (cap : Int) := by omega
    have hm6 : m ≤ w6.heap.size := by have := hb6.size; have : w1.drew.drew.heap.size = w1.heap.size := rfl; have := HW1.out.size; omega
    clear L6 V6 A6 hb6 hk6 V1d c0 c1 c2 c3 c4 f0 f1 f2 f3 f4 p0 p1 p2 p3 p4 p5 p6 q0 q1 HDP A1 AB bdd
    have A8 : ActB (((w6.setCell ⟨wb, 2, none⟩ (.int .i64 (first + (n : Int)))).setCell ⟨wb, 3, none⟩ (cutV a xs.length cap n)).setCell ⟨wb, 4, none⟩ (.slice none 0 0)) w.heap.size ⟨qk, qn, qt, qb, 0, qd⟩ fv := ((block_setCell_other y2).trans ((block_setCell_other y2).trans (block_setCell_other y2))).trans HA6.out
    unfold cutV at W8 B8 A8
    go_upto_region 33 with fail
    generalize ((w6.setCell ⟨wb, 2, none⟩ (.int .i64 (first + (n : Int)))).setCell ⟨wb, 3, none⟩ (.slice (if cap = n then a else Option.map (fun x => Addr.add x (n * 3)) a) (xs.length - n) (cap - n))).setCell ⟨wb, 4, none⟩ (.slice none 0 0) = w8 at W8 B8 A8 ⊢
    obtain ⟨t0, _, _, _, t4, _, _⟩ := A8.cells
    simp only at t0 t4
    have u0 := W8.wld.cells.1.1
    have HDN := Lib.hid (wl_down W8)
    have hms8 := W8.size
    have HSH := Lib.hid (wl_shows W8 (fun y hy => HT.out y ((B1m.trans B8).trans hy)) (by omega))
    have B8m := B1m.trans B8
    have HLN : Hid ((xs.drop n).length ≤ 8) := by show (xs.drop n).length ≤ 8; simp; omega
    clear W8 B8 A8 HA6 HV6 g2 g3 g4 r0 r1 r2 r3 r4 s0 s4 y1 y2 HW1 d1 d2 d3
    go_wp2_with fail
    all_goals
      refine HDN.out.mono ?_
      rintro e w9 ⟨rfl, rfl⟩
      go_wp2_with fail
      refine HSH.out.mono ?_
      rintro e w9 ⟨rfl, W9, hb9⟩
      go_wp2_with fail
      go_ret
      exact ⟨rfl, first + (n : Int), xs.drop n, ⟨_, _, _, _, _, _, _, _, W9.mono (by have := HLN.out; omega)⟩, by omega, B8m.trans hb9⟩
end
end Go.Proofs.YtigebaaldikeaaaDoor
