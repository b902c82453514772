/- The law's arguments that came in: messages. No conditions beyond those in each statement. -/
import Derived.Test.YtddkbninkncbeaaMRow
import Derived.ChangeSlices
namespace Go.Proofs.Ytddkbninkncbeaa
open Go.ChangeShapes Go.WideShapes Go.ChangeAt Go.Deep Go.RowKit
open Go.ChangeMaps (open_string shut_string)
set_option linter.unusedVariables false
set_option linter.unusedSimpArgs false
set_option maxRecDepth 100000
section
variable {H : Type} {enc : TypeId × Value → H} {W : World} {base b0 : Nat} {spare : Nat → Bool} {held : Bool} {v : Value} {d : DataW H} {p : List MemPlace}
theorem und_int8 : Try.prog.underlying 3 = some (.int .i64) := by kernel_rfl
theorem und_kind : Try.prog.underlying 22 = some (.int .i64) := by kernel_rfl
theorem und_state : Try.prog.underlying 24 = some (.int .i64) := by kernel_rfl
theorem und_sum : Try.prog.underlying 43 = some (.int .u32) := by kernel_rfl
theorem und_bool : Try.prog.underlying 4 = some .bool := by kernel_rfl
theorem en_fields : ∃ fs, Try.prog.underlying 39 = some (.struct fs) ∧ oneCellFields Try.prog fs = true ∧ Try.prog.cellsOf 39 = fs.size ∧ fs.size = 3 ∧
    (∀ f, fs[0]? = some f → f.type = 3) ∧ (∀ f, fs[1]? = some f → f.type = 3) ∧ (∀ f, fs[2]? = some f → f.type = 9) := by
  refine ⟨_, Try.underlying39, by kernel_rfl, by kernel_rfl, rfl, ?_, ?_, ?_⟩ <;> (intro f hf; simp at hf; rw [← hf])
theorem ents_trod {fuel : Nat} {x : DataW H × List MemPlace} (hf : DataW.trod enc Try.prog W base spare held fuel 23 [v] = some x) : ∃ L, EnsR W v L := by
  obtain ⟨fs, g1, g2, g3, g4, f0, f1, f2⟩ := en_fields
  rcases open_slice_fields und_ens g1 g2 g3 hf with ⟨hcs, _⟩ | ⟨x, len, cap, m, D, hcs, hl, hm, hmm, hi⟩
  · obtain rfl := List.head_eq_of_cons_eq hcs
    exact ⟨[], _, _, rfl, Nat.zero_le _, (fun x hx => by cases hx), .inl rfl⟩
  · obtain rfl := List.head_eq_of_cons_eq hcs
    have hml : len ≤ m := by rw [hmm]; split <;> omega
    have hx : ∀ i, i < len → ∃ q : Ent, q.Ok ∧ (W.cell? (x.add (i * 3)) = some (.int .i64 q.ix) ∧ W.cell? (x.add (i * 3 + 1)) = some (.int .i64 q.tm) ∧ W.cell? (x.add (i * 3 + 2)) = some (.string q.da)) := by
      intro i hil
      obtain ⟨ys, n, hys, hfs⟩ := hi i (by omega)
      have s0 : fs[0]? = some (fs[0]'(by omega)) := Array.getElem?_eq_getElem (by omega)
      have s1 : fs[1]? = some (fs[1]'(by omega)) := Array.getElem?_eq_getElem (by omega)
      have s2 : fs[2]? = some (fs[2]'(by omega)) := Array.getElem?_eq_getElem (by omega)
      obtain ⟨v0, y0, c0, _, t0⟩ := hfs 0 _ s0
      obtain ⟨v1, y1, c1, _, t1⟩ := hfs 1 _ s1
      obtain ⟨v2, y2, c2, _, t2⟩ := hfs 2 _ s2
      rw [f0 _ s0] at t0
      rw [f1 _ s1] at t1
      rw [f2 _ s2] at t2
      rw [g4] at c0 c1 c2
      obtain ⟨n0, e0, _, w0⟩ := DataW.trod_int und_int8 t0
      obtain ⟨n1, e1, _, w1⟩ := DataW.trod_int und_int8 t1
      obtain ⟨p2, e2, _, w2⟩ := DataW.trod_string und_string t2
      simp at e0 e1 e2
      subst e0 e1 e2
      exact ⟨⟨n0, n1, p2⟩, ⟨inR_of w0, inR_of w1, w2⟩, c0, c1, c2⟩
    by_cases hz : len = 0
    · exact ⟨[], some x, cap, by rw [hz]; rfl, Nat.zero_le _, (fun x hx => by cases hx), .inl rfl⟩
    · obtain ⟨q0, _, h0, _⟩ := hx 0 (by omega)
      obtain ⟨b, off, spot⟩ := x
      have hspot : spot = none := by simpa [Addr.add] using World.cell?_spot h0
      subst hspot
      have hadd : ∀ j : Nat, (Addr.add ⟨b, off, none⟩ j : Addr) = ⟨b, off + j, none⟩ := fun j => by simp [Addr.add]
      have hget : ∀ j, j < len → ((List.range len).map fun i => if hil : i < len then Classical.choose (hx i hil) else Ent.zero).getD j Ent.zero = if hil : j < len then Classical.choose (hx j hil) else Ent.zero := fun j hj => by
        simp [hj]
      refine ⟨(List.range len).map fun i => if hil : i < len then Classical.choose (hx i hil) else Ent.zero, some ⟨b, off, none⟩, cap, by simp, by simp; omega, ?_, .inr ⟨b, off, rfl, ?_, ?_⟩⟩
      · intro q hq
        obtain ⟨i, hi', rfl⟩ := List.mem_map.1 hq
        rw [dif_pos (List.mem_range.1 hi')]
        exact (Classical.choose_spec (hx i (List.mem_range.1 hi'))).1
      · have := World.block_lt_of_cell? W _ h0
        rwa [hadd] at this
      · intro j hj
        simp only [List.length_map, List.length_range] at hj
        have hspec := (Classical.choose_spec (hx j hj)).2
        rw [hget j hj, dif_pos hj]
        unfold EnC
        simp only [hadd, Nat.add_assoc] at hspec ⊢
        exact hspec
theorem sums_trod {n : Nat} {v : Value} {y : DataW H × List MemPlace} (hf : DataW.trod enc Try.prog W base spare held n 25 [v] = some y) : ∃ zs, SmsR W v zs := by
  rcases open_ints und_sms und_sum (by kernel_rfl) hf with ⟨hcs, _⟩ | ⟨x, l, c, zs, hcs, _, hl, hm, hz, _, hcell, hwz⟩
  · obtain rfl : v = .slice none 0 0 := by simpa using hcs
    exact ⟨[], SmsR.nil _⟩
  · obtain rfl : v = .slice (some x) l c := by simpa using hcs
    have hlz : l ≤ zs.length := by rw [hz]; split <;> omega
    refine ⟨zs.take l, some x, c, by rw [List.length_take, Nat.min_eq_left hlz], by rw [List.length_take]; omega, fun n hn => ?_, ?_⟩
    · have := (Lit.wf_int_iff .u32 n).1 (hwz n (List.mem_of_mem_take hn))
      rw [show IntKind.u32.min = 0 by decide, show IntKind.u32.max = 4294967295 by decide] at this
      exact this
    · by_cases h0 : l = 0
      · exact .inl (by rw [List.length_take]; omega)
      · obtain ⟨b, off, spot⟩ := x
        have hc0 := hcell 0 (by omega)
        have hspot : spot = none := by simpa [Addr.add] using World.cell?_spot hc0
        subst hspot
        have hadd : ∀ j : Nat, (Addr.add ⟨b, off, none⟩ j : Addr) = ⟨b, off + j, none⟩ := fun j => by simp [Addr.add]
        refine .inr ⟨b, off, rfl, ?_, fun j hj => ?_⟩
        · rw [hadd] at hc0
          exact World.block_lt_of_cell? W _ hc0
        · have hj' : j < l := by rw [List.length_take] at hj; omega
          have := hcell j (by omega)
          rw [hadd] at this
          rw [this]
          simp [List.getD_eq_getElem?_getD, hj']
theorem trod_at {t : TypeId} {fs : Array Field} {fuel : Nat} {cs : List Value} {x : DataW H × List MemPlace} (ht : Try.prog.underlying t = some (.struct fs)) (h : DataW.trod enc Try.prog W base spare held fuel t cs = some x) :
    ∃ n, ∀ (i : Nat) (f : Field) (ty : TypeId) (off k : Nat), fs[i]? = some f → f.type = ty → f.offset = off → Try.prog.cellsOf ty = k → ∃ y, DataW.trod enc Try.prog W base spare held n ty ((cs.drop off).take k) = some y := by
  obtain ⟨xs, n, _, _, _, hl, hf⟩ := DataW.trod_struct ht h
  refine ⟨n, fun i f ty off k hi e1 e2 e3 => ?_⟩
  subst e1 e2 e3
  have hil : i < fs.size := (Array.getElem?_eq_some_iff.1 hi).1
  have hxs : xs[i]? = some (xs[i]'(by omega)) := List.getElem?_eq_getElem (by omega)
  exact ⟨_, (hf i f hi).trans hxs⟩
theorem list17 {α : Type} (l : List α) (h : l.length = 17) : ∃ c0 c1 c2 c3 c4 c5 c6 c7 c8 c9 c10 c11 c12 c13 c14 c15 c16, l = [c0, c1, c2, c3, c4, c5, c6, c7, c8, c9, c10, c11, c12, c13, c14, c15, c16] := by
  match l, h with
  | [c0, c1, c2, c3, c4, c5, c6, c7, c8, c9, c10, c11, c12, c13, c14, c15, c16], _ => exact ⟨c0, c1, c2, c3, c4, c5, c6, c7, c8, c9, c10, c11, c12, c13, c14, c15, c16, rfl⟩
/-- A message that came in. -/
theorem msg_of (hv : Value.okWide Try.prog W .any b0 29 v) (h : DataW.Trod enc Try.prog W base spare held 29 v d p) : ∃ u s m, v = mgV u s m ∧ m.Ok ∧ EnsR W u m.es ∧ SmsR W s m.ss := by
  obtain ⟨cs, rfl, hsz⟩ := okWide_struct Try.underlying29 hv
  have h17 : Try.prog.cellsOf 29 = 17 := by kernel_rfl
  have k1 : Try.prog.cellsOf 3 = 1 := by kernel_rfl
  have k2 : Try.prog.cellsOf 22 = 1 := by kernel_rfl
  have k3 : Try.prog.cellsOf 23 = 1 := by kernel_rfl
  have k4 : Try.prog.cellsOf 4 = 1 := by kernel_rfl
  have k5 : Try.prog.cellsOf 24 = 1 := by kernel_rfl
  have k6 : Try.prog.cellsOf 27 = 4 := by kernel_rfl
  have k7 : Try.prog.cellsOf 9 = 1 := by kernel_rfl
  have k8 : Try.prog.cellsOf 25 = 1 := by kernel_rfl
  rw [h17] at hsz
  obtain ⟨l⟩ := cs
  obtain ⟨c0, c1, c2, c3, c4, c5, c6, c7, c8, c9, c10, c11, c12, c13, c14, c15, c16, rfl⟩ := list17 l (by simpa using hsz)
  obtain ⟨fuel, hf⟩ := h
  obtain ⟨n, hfs⟩ := trod_at Try.underlying29 hf
  obtain ⟨y0, t0⟩ := hfs 0 _ 22 0 1 rfl rfl rfl k2
  obtain ⟨y1, t1⟩ := hfs 1 _ 3 1 1 rfl rfl rfl k1
  obtain ⟨y2, t2⟩ := hfs 2 _ 3 2 1 rfl rfl rfl k1
  obtain ⟨y3, t3⟩ := hfs 3 _ 3 3 1 rfl rfl rfl k1
  obtain ⟨y4, t4⟩ := hfs 4 _ 3 4 1 rfl rfl rfl k1
  obtain ⟨y5, t5⟩ := hfs 5 _ 3 5 1 rfl rfl rfl k1
  obtain ⟨y6, t6⟩ := hfs 6 _ 3 6 1 rfl rfl rfl k1
  obtain ⟨y7, t7⟩ := hfs 7 _ 3 7 1 rfl rfl rfl k1
  obtain ⟨y8, t8⟩ := hfs 8 _ 23 8 1 rfl rfl rfl k3
  obtain ⟨y9, t9⟩ := hfs 9 _ 4 9 1 rfl rfl rfl k4
  obtain ⟨y10, t10⟩ := hfs 10 _ 24 10 1 rfl rfl rfl k5
  obtain ⟨y11, t11⟩ := hfs 11 _ 27 11 4 rfl rfl rfl k6
  obtain ⟨y12, t12⟩ := hfs 12 _ 3 15 1 rfl rfl rfl k1
  obtain ⟨y13, t13⟩ := hfs 13 _ 9 16 1 rfl rfl rfl k7
  simp only [Value.cells, List.drop_zero, List.drop_succ_cons, List.take_succ_cons, List.take_zero] at t0 t1 t2 t3 t4 t5 t6 t7 t8 t9 t10 t11 t12 t13
  obtain ⟨n2, hls⟩ := trod_at Try.underlying27 t11
  obtain ⟨z0, s0⟩ := hls 0 _ 3 0 1 rfl rfl rfl k1
  obtain ⟨z1, s1⟩ := hls 1 _ 3 1 1 rfl rfl rfl k1
  obtain ⟨z2, s2⟩ := hls 2 _ 3 2 1 rfl rfl rfl k1
  obtain ⟨z3, s3⟩ := hls 3 _ 25 3 1 rfl rfl rfl k8
  simp only [List.drop_zero, List.drop_succ_cons, List.take_succ_cons, List.take_zero] at s0 s1 s2 s3
  obtain ⟨x0, e0, _, w0⟩ := DataW.trod_int und_kind t0
  obtain ⟨x1, e1, _, w1⟩ := DataW.trod_int und_int8 t1
  obtain ⟨x2, e2, _, w2⟩ := DataW.trod_int und_int8 t2
  obtain ⟨x3, e3, _, w3⟩ := DataW.trod_int und_int8 t3
  obtain ⟨x4, e4, _, w4⟩ := DataW.trod_int und_int8 t4
  obtain ⟨x5, e5, _, w5⟩ := DataW.trod_int und_int8 t5
  obtain ⟨x6, e6, _, w6⟩ := DataW.trod_int und_int8 t6
  obtain ⟨x7, e7, _, w7⟩ := DataW.trod_int und_int8 t7
  obtain ⟨L, hL⟩ := ents_trod (v := c8) t8
  obtain ⟨x9, e9, _⟩ := DataW.trod_bool und_bool t9
  obtain ⟨x10, e10, _, w10⟩ := DataW.trod_int und_state t10
  obtain ⟨x12, e12, _, w12⟩ := DataW.trod_int und_int8 t12
  obtain ⟨x13, e13, _, w13⟩ := DataW.trod_string und_string t13
  obtain ⟨q0, f0, _, g0⟩ := DataW.trod_int und_int8 s0
  obtain ⟨q1, f1, _, g1⟩ := DataW.trod_int und_int8 s1
  obtain ⟨q2, f2, _, g2⟩ := DataW.trod_int und_int8 s2
  obtain ⟨S, hS⟩ := sums_trod (v := c14) s3
  simp only [List.cons.injEq, and_true] at e0 e1 e2 e3 e4 e5 e6 e7 e9 e10 e12 e13 f0 f1 f2
  subst e0 e1 e2 e3 e4 e5 e6 e7 e9 e10 e12 e13 f0 f1 f2
  refine ⟨c8, c14, ⟨x0, x1, x2, x3, x4, x5, x6, x7, L, x9, x10, q0, q1, q2, S, x12, x13⟩, rfl, ?_, hL, hS⟩
  exact {kd := inR_of w0, fr := inR_of w1, dt := inR_of w2, tm := inR_of w3, ix := inR_of w4, lg := inR_of w5, la := inR_of w6, co := inR_of w7, st := inR_of w10, li := inR_of g0, lt := inR_of g1, lb := inR_of g2, pa := inR_of w12, da := w13}
end
end Go.Proofs.Ytddkbninkncbeaa
