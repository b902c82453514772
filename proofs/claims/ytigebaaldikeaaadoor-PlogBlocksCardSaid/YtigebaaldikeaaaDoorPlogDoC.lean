/- Law 6's Do: Cut, Append. No conditions beyond those in each statement. -/
import Derived.Test.YtigebaaldikeaaaDoorPlogDo
namespace Go.Proofs.YtigebaaldikeaaaDoor
open Go.RowKit
set_option linter.unusedVariables false
set_option maxRecDepth 100000

section
variable {m wb : Nat} {w : World} {E : Nat → Prop} {B b bt bd cnt : Nat} {D : Dv} {first : Int} {xs : List En} {va vm : Value}
theorem EnA.headN {F : Nat → Prop} {w : World} {a : Option Addr} {c : Nat} {ys : List En} (h : EnA F w (.slice a ys.length c) ys) (k : Nat) (h1 : k ≤ ys.length) : EnA F w (.slice a k c) (ys.take k) := by
  obtain ⟨a', cap, hs, hn, h⟩ := h
  have hl : (ys.take k).length = k := by simp; omega
  have ha : a = a' := by injection hs
  subst ha
  rcases h with h | ⟨g, off, rfl, hg, hgl, hcs⟩
  · exact ⟨a, c, by rw [hl], by omega, .inl (by omega)⟩
  · refine ⟨_, c, by rw [hl], by omega, .inr ⟨g, off, rfl, hg, hgl, fun j x hx => ?_⟩⟩
    have hj : j < k := by have := (List.getElem?_eq_some_iff.1 hx).1; omega
    exact hcs j x (by rw [List.getElem?_take_of_lt hj] at hx; exact hx)
theorem WlIn.headN {w6 : World} {D' : Dv} {a : Option Addr} {c : Nat} (h : WlIn m wb w E B b bt bd D first xs cnt (.slice a xs.length c) vm) (k : Nat) (hnl : k ≤ xs.length)
    (hL : Lw m E w6 b B bt bd 19 3 8 first (xs.take k) cnt D') (hu : Unsp D') (hb : Below m w w6) (hk : Kept (But E b bt bd) w w6) :
    WlIn m wb (((w6.setCell ⟨wb, 4, none⟩ (.slice a xs.length c)).setCell ⟨wb, 3, none⟩ (.slice a k c)).setCell ⟨wb, 4, none⟩ (.slice none 0 0)) E B b bt bd D' first (xs.take k) cnt (.slice a k c) (.slice none 0 0) ∧
    Below m w (((w6.setCell ⟨wb, 4, none⟩ (.slice a xs.length c)).setCell ⟨wb, 3, none⟩ (.slice a k c)).setCell ⟨wb, 4, none⟩ (.slice none 0 0)) := by
  have hl : (xs.take k).length = k := by simp; omega
  obtain ⟨a2, c2, hs, hcc, hcn, hsp⟩ := h.cap
  have e2 : a = a2 ∧ c = c2 := by injection hs with x1 x2 x3; exact ⟨x1, x3⟩
  obtain ⟨rfl, rfl⟩ := e2
  have V6 := h.wld.keep hk h.but
  have A6 := h.all.keep hk (fun _ h => h) hb.size
  have A7 := A6.setW V6 h.cap 4 (.slice a xs.length c)
  have A8 := A7.setW (V6.setMaybe _) h.cap 3 (.slice a k c)
  have V8 := (V6.setMaybe (.slice a xs.length c)).setAll (.slice a k c)
  have A9 := A8.headN k hnl
  have hcp : CapS (.slice a k c) k := ⟨a, c, rfl, by omega, hcn, hsp⟩
  have B7 := ((hb.setCell (p := ⟨wb, 4, none⟩) h.mwb (.slice a xs.length c)).setCell (p := ⟨wb, 3, none⟩) h.mwb (.slice a k c)).setCell (p := ⟨wb, 4, none⟩) h.mwb (.slice none 0 0)
  exact ⟨⟨((hL.setOut h.but h.mwb 4 _).setOut h.but h.mwb 3 _).setOut h.but h.mwb 4 _, V8.setMaybe _, A9.setW V8 hcp 4 _, by rw [hl]; exact hcp, h.but, h.mwb, Nat.le_trans h.size B7.size, hu⟩, B7⟩
set_option maxHeartbeats 4000000 in
theorem do6_cut (h : WlIn m wb w E B b bt bd D first xs cnt va vm) (hm : m ≤ w.heap.size) (ht : ∀ x, Below m w x → Tabs x) (q : Ac6) (fv : Value) (hf : q.fall = 0) (U : Int) (hU : IntKind.u64.wrap q.k = U) (hkk : U.tmod 7 = 4) (C : Nat) (hc : cnt ≤ C ∧ 20000 ≤ C ∧ C ≤ 700000000) (h1000 : first ≤ 1000) :
    Calls Tryd.prog 21 #[.pointer (some ⟨wb, 0, none⟩), actV q fv] w fun e w' => e = .returned (.bool true) ∧ DoRel m wb w first C w' := by
  obtain ⟨qk, qn, qt, qb, qf, qd⟩ := q
  simp only at hf hU
  subst hf
  have hfi := h.lw.neat.ents.fits
  have hf1 := h.lw.neat.ents.first
  have hhi := h.lw.neat.ents.high
  simp only at hfi hf1 hhi
  have B1 := (Below.refl w.heap.size w).alloc (Nat.le_refl _) (.cells #[.int .i64 qk, .int .i64 qn, .int .i64 qt, .int .i64 qb, .int .i64 0, .string qd, fv] 46)
  have A1 := ActB.new w ⟨qk, qn, qt, qb, 0, qd⟩ fv
  have W1 := h.growAll B1
  have AB := act_but h A1.lt
  have HT := Lib.hid ht
  obtain ⟨a, cap, rfl, hcap, hnone, hspot⟩ := h.cap
  obtain ⟨q0, hq0⟩ : ∃ z : Int, z = qb % 4 := ⟨_, rfl⟩
  obtain ⟨nb, hnb⟩ : ∃ n : Nat, (n : Int) = q0 := ⟨q0.toNat, by omega⟩
  have hb4 : bits .and .i64 qb 3 = (nb : Int) := by rw [i64_and3, hnb, hq0]
  have hnb3 : nb ≤ 3 := by omega
  obtain ⟨n, hn⟩ : ∃ n, n = min nb xs.length := ⟨_, rfl⟩
  have hn3 : n ≤ 3 ∧ n ≤ xs.length := by omega
  obtain ⟨k, hk⟩ : ∃ k, k = xs.length - n := ⟨_, rfl⟩
  have hkx : k ≤ xs.length := by omega
  have e1 : min (nb : Int) (xs.length : Int) = (n : Int) := by omega
  have e2 : IntKind.i64.wrap (first + (xs.length : Int)) = first + (xs.length : Int) := IntWalk.i64_in _ (by omega)
  have e3 : IntKind.i64.wrap (first + (xs.length : Int) - (n : Int)) = first + (k : Int) := by rw [IntWalk.i64_in _ (by omega)]; omega
  have e4 : IntKind.i64.wrap ((xs.length : Int) - (n : Int)) = (k : Int) := by rw [IntWalk.i64_in _ (by omega)]; omega
  have hx8 : (xs.length : Int) ≤ 8 := hfi
  clear h ht hq0 hnb hn hk
  unfold actV
  go_enter Tryd.func21, Tryd.ntmps21
  go_upto_region 1 with fail
  generalize w.alloc (.cells #[.int .i64 qk, .int .i64 qn, .int .i64 qt, .int .i64 qb, .int .i64 0, .string qd, fv] 46) = w1 at W1 A1 B1 AB ⊢
  obtain ⟨p0, p1, p2, p3, p4, p5, p6⟩ := A1.cells
  obtain ⟨⟨c0, c1, c2, c3, c4⟩, f0, f1, f2, f3, f4⟩ := W1.wld.cells
  simp only at p0 p1 p2 p3 p4 p5 p6
  have B1m := B1.mono hm
  have hmw := W1.mwb
  have e7 : IntKind.u64.wrap (4 : Int) = 4 := by decide
  have e8 : IntKind.i64.wrap (4 : Int) = 4 := by decide
  have bdd : Below w1.heap.size w1 w1.drew.drew := ((Below.refl _ w1).drew).drew
  have V1d : WldB w1.drew.drew wb B b first (.slice a xs.length cap) vm := W1.wld
  have HDP := Lib.hid (lw_cut (W1.lw.below bdd) (by decide) (f := first + (k : Int)) (by omega) (by omega) (Nat.le_trans W1.size (Nat.le_refl _)) (fun y hy => HT.out y (B1m.trans ((((Below.refl m w1).drew).drew).trans hy))))
  have HW1 := Lib.hid W1
  clear W1 B1
  go_wp2_with fail
  go_cut [9] (fun v wx => v = .int .i64 (n : Int) ∧ wx = w1.drew)
  case first =>
    go_region_held3 (fun w' => w'.cell? ⟨w.heap.size, 3, none⟩ = some (.int .i64 qb) ∧ w'.cell? ⟨wb, 3, none⟩ = some (.slice a xs.length cap)) (first | (with_reducible assumption) | (refine ⟨?_, ?_⟩ <;> with_reducible assumption) | go_keep) (fail)
    all_goals (go_wp2_with fail; go_meet)
    all_goals exact ⟨rfl, rfl⟩
  case rest =>
    obtain ⟨rfl, rfl⟩ := hcut
    have q0 : w1.drew.cell? ⟨wb, 1, none⟩ = some (.pointer (some ⟨b, 0, none⟩)) := c1
    have q1 : w1.drew.cell? ⟨wb, 2, none⟩ = some (.int .i64 first) := c2
    have q2 : w1.drew.cell? ⟨wb, 3, none⟩ = some (.slice a xs.length cap) := c3
    go_wp2_with fail
    go_region_held3 (fun w' => w'.cell? ⟨wb, 1, none⟩ = some (.pointer (some ⟨b, 0, none⟩)) ∧ w'.cell? ⟨wb, 2, none⟩ = some (.int .i64 first) ∧ w'.cell? ⟨wb, 3, none⟩ = some (.slice a xs.length cap)) (first | (with_reducible assumption) | (refine ⟨?_, ?_, ?_⟩ <;> with_reducible assumption) | go_keep)
      ((go_at_call 39; refine HDP.out.mono ?_; rintro e w6 ⟨rfl, ⟨D6, L6, hu6⟩, hb6, hk6⟩; have V6 := V1d.keep hk6 HW1.out.but; have r1 := V6.cells.1.2.1; have r2 := V6.cells.1.2.2.1; have r3 := V6.cells.1.2.2.2.1))
    have A6 : ActB w6 w.heap.size ⟨qk, qn, qt, qb, 0, qd⟩ fv := (hk6 _ AB).trans A1
    have en : (first + (k : Int) - first).toNat = k := by omega
    rw [en] at L6
    obtain ⟨W8, B8⟩ := HW1.out.headN k hkx L6 (hu6 HW1.out.pure) (((Below.refl _ w1).drew.drew).trans hb6) (fun j hj => hk6 j hj)
    obtain ⟨_, _, g2, g3, g4⟩ := V6.cells.2
    have y1 : ¬ wb = w.heap.size := fun e => by
      have hA := A6
      have hV := V6
      unfold ActB at hA
      unfold WldB at hV
      rw [← e, hV] at hA
      simp at hA
    have y2 : ¬ w.heap.size = wb := fun e => y1 e.symm
    have A8 : ActB (((w6.setCell ⟨wb, 4, none⟩ (.slice a xs.length cap)).setCell ⟨wb, 3, none⟩ (.slice a k cap)).setCell ⟨wb, 4, none⟩ (.slice none 0 0)) w.heap.size ⟨qk, qn, qt, qb, 0, qd⟩ fv := ((block_setCell_other y2).trans ((block_setCell_other y2).trans (block_setCell_other y2))).trans A6
    have r4 := V6.cells.1.2.2.2.2
    have d1 : (k : Int) ≤ (cap : Int) := by omega
    have d2 : (0 : Int) ≤ (k : Int) := by omega
    clear L6 A6 V6 hb6 hk6 V1d c0 c1 c2 c3 c4 f0 f1 f2 f3 f4 p0 p1 p2 p3 p4 p5 p6 q0 q1 q2 HDP A1 AB bdd
    go_upto_region 33 with fail
    generalize ((w6.setCell ⟨wb, 4, none⟩ (.slice a xs.length cap)).setCell ⟨wb, 3, none⟩ (.slice a k cap)).setCell ⟨wb, 4, none⟩ (.slice none 0 0) = w8 at W8 B8 A8 ⊢
    obtain ⟨t0, _, _, _, t4, _, _⟩ := A8.cells
    simp only at t0 t4
    have u0 := W8.wld.cells.1.1
    have HDN := Lib.hid (wl_down W8)
    have HSH := Lib.hid (wl_shows W8 (fun y hy => HT.out y ((B1m.trans B8).trans hy)) (by omega))
    have B8m := B1m.trans B8
    have HLN : Hid ((xs.take k).length ≤ 8) := by show (xs.take k).length ≤ 8; simp; omega
    clear W8 B8 A8 g2 g3 g4 r1 r2 r3 r4 y1 y2 HW1 d1 d2 hu6
    go_wp2_with fail
    all_goals
      refine HDN.out.mono ?_
      rintro e w9 ⟨rfl, rfl⟩
      go_wp2_with fail
      refine HSH.out.mono ?_
      rintro e w9 ⟨rfl, W9, hb9⟩
      go_wp2_with fail
      go_ret
      exact ⟨rfl, first, xs.take k, ⟨_, _, _, _, _, _, _, _, W9.mono (by have := HLN.out; omega)⟩, by omega, B8m.trans hb9⟩
theorem ens_row {F : Nat → Prop} {w' : World} {base : Nat} {v : Value} {ys : List En} (h : w'.ownsRow base 60 3 v ys.length (enCells ys)) (hl : ys.length ≤ 10000) (hF : ∀ g, base ≤ g → g < w'.heap.size → F g) : EnS F w' v ys := by
  obtain ⟨a, cap, hv⟩ := slice_of h
  by_cases h0 : ys.length = 0
  · exact ⟨a, cap, hv, hl, .inl h0⟩
  · obtain ⟨g, cap, hv, _, hb, hg, hc⟩ := row_en h h0 hl
    exact ⟨_, cap, hv, hl, .inr ⟨g, rfl, hF g hb hg, hg, fun j x hx => by simpa using hc j x hx⟩⟩
theorem run_app0 (w : World) (ty : TypeId) (p q : Option Addr) (n c c2 : Nat) (hnc : n ≤ c) : (Builtin.append_ #[50, 50] ty #[.slice p n c, .slice q 0 c2]).run Tryd.prog w = .ok (.slice p n c) w := by
  have h2 : n + 0 ≤ c := by omega
  cases p <;> cases q <;> go_simp
theorem app_full {D : Dv} {L : Lg} {ys : List En} (h : L.size - L.count < (ys.length : Int)) : D.app L ys = (4, D) := by
  unfold Dv.app
  rw [if_pos h]
theorem entE_ok (q : Ac6) (f : Int) (j : Nat) (hd : q.data.size ≤ 200) : (entE q f j).ok = true := by
  have h1 : (1 : Int) ≤ 1 + q.term % 65536 := by omega
  have h2 : 1 + q.term % 65536 ≤ 1099511627776 := by omega
  have h3 : (q.data ++ ⟨#[bJ j]⟩ : ByteArray).size ≤ 488 := by rw [ByteArray.size_append]; show q.data.size + 1 ≤ 488; omega
  unfold En.ok entE
  exact decide_eq_true ⟨h1, h2, h3⟩
theorem entsA_at (q : Ac6) (f : Int) (n j : Nat) (y : En) (h : (entsA q f n)[j]? = some y) : j < n ∧ y = entE q f j := by
  unfold entsA at h
  rw [List.getElem?_map] at h
  have hj : j < n := by
    rcases Nat.lt_or_ge j n with h1 | h1
    · exact h1
    · rw [List.getElem?_eq_none (by simpa using h1)] at h; cases h
  rw [List.getElem?_eq_getElem (by simpa using hj)] at h
  simp at h
  exact ⟨hj, h.symm⟩
end
end Go.Proofs.YtigebaaldikeaaaDoor
