/- Law 7's acts that came in, and a slice of ints that came in. No conditions beyond those in each statement. -/
import Derived.Test.YtiknfifiglooeaaDoorChunkSt
import Derived.Test.YtiknfifiglooeaaDoorDevArgs
import Derived.Deep.Slices
import Derived.Deep.Fields
import Derived.SliceStrings
import Derived.ProofKit
import Derived.OpenShut
namespace Go.Proofs.YtiknfifiglooeaaDoor
open Go.ChangeShapes Go.WideShapes Go.ChangeAt Go.Deep Go.RowKit
open Go.ChangeMaps (open_string shut_string)
set_option linter.unusedVariables false
set_option maxRecDepth 100000

section
variable {H : Type} {enc : TypeId × Value → H} {P : Program} {w : World} {base : Nat} {spare : Nat → Bool} {held : Bool}
theorem open_slice_fields {t e : TypeId} {fs : Array Field} {fuel : Nat} {cs : List Value} {x : DataW H × List MemPlace} (ht : P.underlying t = some (.slice e)) (he : P.underlying e = some (.struct fs))
    (hone : oneCellFields P fs = true) (hC : P.cellsOf e = fs.size) (h : DataW.trod enc P w base spare held fuel t cs = some x) :
    (cs = [.slice none 0 0] ∧ x = (.nil, [])) ∨
    ∃ (a : Addr) (len cap m : Nat) (D : Nat → DataW H), cs = [.slice (some a) len cap] ∧ len ≤ cap ∧ cap ≤ maxLen ∧ m = (if spare a.block then cap else len) ∧
      ∀ i, i < m → ∃ (ys : List (DataW H × List MemPlace)) (n : Nat), ys.length = fs.size ∧
        ∀ (j : Nat) (f : Field), fs[j]? = some f → ∃ (v : Value) (y : DataW H × List MemPlace), w.cell? (a.add (i * fs.size + j)) = some v ∧ ys[j]? = some y ∧ DataW.trod enc P w base spare held n f.type [v] = some y := by
  rcases open_slice ht h with h0 | ⟨a, len, cap, m, n, D, Pl, hcs, hb, hl, hm, hmm, hx, hi⟩
  · exact .inl h0
  · refine .inr ⟨a, len, cap, m, D, hcs, hl, hm, hmm, fun i him => ?_⟩
    obtain ⟨cs', hc, ht'⟩ := hi i him
    rw [hC] at hc
    obtain ⟨ys, n', hn', hy, hlen, hyl, hf⟩ := DataW.trod_struct he ht'
    obtain ⟨_, hcl, hat⟩ := World.cells?_some hc
    refine ⟨ys, n', hyl, fun j f hj => ?_⟩
    obtain ⟨ho, hk⟩ := hone_of hone j f hj
    have hjl : j < fs.size := (Array.getElem?_eq_some_iff.1 hj).1
    have hcell := hat j hjl
    have hv : cs'[j]? = some (cs'[j]'(by omega)) := List.getElem?_eq_getElem (by omega)
    have h1 := hf j f hj
    rw [ho, hk] at h1
    have hone' : (cs'.drop j).take 1 = [cs'[j]'(by omega)] := by
      rw [List.drop_eq_getElem_cons (by omega)]
      rfl
    rw [hone'] at h1
    have hys : ys[j]? = some (ys[j]'(by omega)) := List.getElem?_eq_getElem (by omega)
    refine ⟨_, _, ?_, hys, h1.trans hys⟩
    rw [← Go.Deep.add_add, hcell, hv]
theorem fts_trod {n : Nat} {v : Value} {y : DataW H × List MemPlace} (hf : DataW.trod enc Tryd.prog w base spare held n 28 [v] = some y) : ∃ zs, Fts w v zs := by
  rcases open_ints und_fates' und_fate (by kernel_rfl) hf with ⟨hcs, _⟩ | ⟨x, l, c, zs, hcs, _, hl, hm, hz, _, hcell, hwz⟩
  · obtain rfl : v = .slice none 0 0 := by simpa using hcs
    exact ⟨[], Fts.nil w⟩
  · obtain rfl : v = .slice (some x) l c := by simpa using hcs
    have hlz : l ≤ zs.length := by rw [hz]; split <;> omega
    refine ⟨zs.take l, some x, c, by rw [List.length_take, Nat.min_eq_left hlz], by rw [List.length_take]; omega, ?_⟩
    by_cases h0 : l = 0
    · exact .inl (by rw [List.length_take]; omega)
    · obtain ⟨b, off, spot⟩ := x
      have hc0 := hcell 0 (by omega)
      have hspot : spot = none := by simpa [Addr.add] using World.cell?_spot hc0
      subst hspot
      have hadd : ∀ j : Nat, (Addr.add ⟨b, off, none⟩ j : Addr) = ⟨b, off + j, none⟩ := fun j => by simp [Addr.add]
      refine .inr ⟨b, off, rfl, ?_, fun j hj => ?_⟩
      · rw [hadd] at hc0
        exact World.block_lt_of_cell? w _ hc0
      · have hj' : j < l := by rw [List.length_take] at hj; omega
        have := hcell j (by omega)
        rw [hadd] at this
        rw [this]
        simp [List.getD_eq_getElem?_getD, hj']
end

/-- An act with its fates. -/
structure Aq7 where
  k : Int
  n : Int
  step : Int
  fall : Int
  fv : Value
  zs : List Int
def aq0 : Aq7 := ⟨0, 0, 0, 0, .slice none 0 0, []⟩
def in64 (n : Int) : Prop := -9223372036854775808 ≤ n ∧ n ≤ 9223372036854775807
structure Aq7.Ok (a : Aq7) : Prop where
  k : in64 a.k
  n : in64 a.n
  step : in64 a.step
  fall : in64 a.fall
/-- A slice of acts that can be read. -/
def Acts7 (w : World) (v : Value) (qs : List Aq7) : Prop :=
  ∃ a cap, v = .slice a qs.length cap ∧ qs.length ≤ maxLen ∧ (∀ x ∈ qs, x.Ok ∧ Fts w x.fv x.zs) ∧ (qs.length = 0 ∨ ∃ g off, a = some ⟨g, off, none⟩ ∧ g < w.heap.size ∧ ∀ j, j < qs.length → w.cell? ⟨g, off + j * 5, none⟩ = some (.int .i64 (qs.getD j aq0).k) ∧ w.cell? ⟨g, off + j * 5 + 1, none⟩ = some (.int .i64 (qs.getD j aq0).n) ∧ w.cell? ⟨g, off + j * 5 + 2, none⟩ = some (.int .i64 (qs.getD j aq0).step) ∧ w.cell? ⟨g, off + j * 5 + 3, none⟩ = some (.int .i64 (qs.getD j aq0).fall) ∧ w.cell? ⟨g, off + j * 5 + 4, none⟩ = some (qs.getD j aq0).fv)
theorem Acts7.below {w x : World} {v : Value} {qs : List Aq7} (h : Acts7 w v qs) (hb : Below w.heap.size w x) : Acts7 x v qs := by
  obtain ⟨a, cap, hv, hm, ho, h⟩ := h
  refine ⟨a, cap, hv, hm, fun q hq => ⟨(ho q hq).1, (ho q hq).2.below hb⟩, h.imp id ?_⟩
  rintro ⟨g, off, ha, hg, hc⟩
  refine ⟨g, off, ha, Nat.lt_of_lt_of_le hg hb.size, fun j hj => ?_⟩
  obtain ⟨h0, h1, h2, h3, h4⟩ := hc j hj
  exact ⟨(hb.cell (p := ⟨g, _, none⟩) hg).trans h0, (hb.cell (p := ⟨g, _, none⟩) hg).trans h1, (hb.cell (p := ⟨g, _, none⟩) hg).trans h2, (hb.cell (p := ⟨g, _, none⟩) hg).trans h3, (hb.cell (p := ⟨g, _, none⟩) hg).trans h4⟩
/-- The cells of an act, in a world that has grown. -/
theorem act7_at {w x : World} {a : Option Addr} {cap k : Nat} {qs : List Aq7} (h : Acts7 w (.slice a qs.length cap) qs) (hb : Below w.heap.size w x) (hk : k < qs.length) : (qs.getD k aq0).Ok ∧ Fts x (qs.getD k aq0).fv (qs.getD k aq0).zs ∧
    ∃ g off, a = some ⟨g, off, none⟩ ∧ x.cell? ⟨g, off + k * 5, none⟩ = some (.int .i64 (qs.getD k aq0).k) ∧ x.cell? ⟨g, off + k * 5 + 1, none⟩ = some (.int .i64 (qs.getD k aq0).n) ∧ x.cell? ⟨g, off + k * 5 + 2, none⟩ = some (.int .i64 (qs.getD k aq0).step) ∧ x.cell? ⟨g, off + k * 5 + 3, none⟩ = some (.int .i64 (qs.getD k aq0).fall) ∧ x.cell? ⟨g, off + k * 5 + 4, none⟩ = some (qs.getD k aq0).fv := by
  obtain ⟨_, _, e0, _, ho, h⟩ := h.below hb
  obtain ⟨rfl, rfl⟩ : a = _ ∧ cap = _ := by simpa using e0
  have hm : qs.getD k aq0 ∈ qs := by
    rw [List.getD_eq_getElem?_getD, List.getElem?_eq_getElem hk]
    exact List.getElem_mem hk
  refine ⟨(ho _ hm).1, (ho _ hm).2, ?_⟩
  rcases h with h | ⟨g, off, rfl, hg, hc⟩
  · omega
  · exact ⟨g, off, rfl, hc k hk⟩
theorem und_int7 : Tryd.prog.underlying 3 = some (.int .i64) := by kernel_rfl
section
variable {H : Type} {enc : TypeId × Value → H} {W : World} {base b0 : Nat} {spare : Nat → Bool} {held : Bool} {v : Value} {d : DataW H} {p : List MemPlace}
theorem ints_of (hv : Value.okWide Tryd.prog W .any b0 90 v) (h : DataW.Trod enc Tryd.prog W base spare held 90 v d p) : ∃ zs, Fts W v zs := by
  obtain ⟨a, len, cap, rfl⟩ := okWide_slice und_ints hv
  obtain ⟨fuel, hf⟩ := h
  rcases open_ints und_ints und_int7 (by kernel_rfl) hf with ⟨hcs, _⟩ | ⟨x, l, c, zs, hcs, _, hl, hm, hz, _, hcell, hwz⟩
  · simp [Value.cells] at hcs
    obtain ⟨rfl, rfl, rfl⟩ := hcs
    exact ⟨[], Fts.nil W⟩
  · simp [Value.cells] at hcs
    obtain ⟨rfl, rfl, rfl⟩ := hcs
    have hlz : len ≤ zs.length := by rw [hz]; split <;> omega
    refine ⟨zs.take len, some x, cap, by rw [List.length_take, Nat.min_eq_left hlz], by rw [List.length_take]; omega, ?_⟩
    by_cases h0 : len = 0
    · exact .inl (by rw [List.length_take]; omega)
    · obtain ⟨b, off, spot⟩ := x
      have hc0 := hcell 0 (by omega)
      have hspot : spot = none := by simpa [Addr.add] using World.cell?_spot hc0
      subst hspot
      have hadd : ∀ j : Nat, (Addr.add ⟨b, off, none⟩ j : Addr) = ⟨b, off + j, none⟩ := fun j => by simp [Addr.add]
      refine .inr ⟨b, off, rfl, ?_, fun j hj => ?_⟩
      · rw [hadd] at hc0
        exact World.block_lt_of_cell? W _ hc0
      · have hj' : j < len := by rw [List.length_take] at hj; omega
        have := hcell j (by omega)
        rw [hadd] at this
        rw [this]
        simp [List.getD_eq_getElem?_getD, hj']
end
section
variable {H : Type} {enc : TypeId × Value → H} {W : World} {base b0 : Nat} {spare : Nat → Bool} {held : Bool} {v : Value} {d : DataW H} {p : List MemPlace}
theorem und_acts7 : Tryd.prog.underlying 74 = some (.slice 82) := by kernel_rfl
theorem act7_fields : ∃ fs, Tryd.prog.underlying 82 = some (.struct fs) ∧ oneCellFields Tryd.prog fs = true ∧ Tryd.prog.cellsOf 82 = fs.size ∧ fs.size = 5 ∧
    (∀ f, fs[0]? = some f → f.type = 3) ∧ (∀ f, fs[1]? = some f → f.type = 3) ∧ (∀ f, fs[2]? = some f → f.type = 3) ∧ (∀ f, fs[3]? = some f → f.type = 3) ∧ (∀ f, fs[4]? = some f → f.type = 28) := by
  refine ⟨_, Tryd.underlying82, by kernel_rfl, by kernel_rfl, rfl, ?_, ?_, ?_, ?_, ?_⟩ <;> (intro f hf; simp at hf; rw [← hf])
theorem wf_i64 {n : Int} (h : (Lit.int .i64 n).wf = true) : in64 n := by
  have h' : IntKind.i64.min ≤ n ∧ n ≤ IntKind.i64.max := by simpa [Lit.wf] using h
  have h1 : IntKind.i64.min = -9223372036854775808 := by rfl
  have h2 : IntKind.i64.max = 9223372036854775807 := by rfl
  unfold in64
  omega
theorem acts7_of (hv : Value.okWide Tryd.prog W .any b0 74 v) (h : DataW.Trod enc Tryd.prog W base spare held 74 v d p) : ∃ qs, Acts7 W v qs := by
  obtain ⟨a, len, cap, rfl⟩ := okWide_slice und_acts7 hv
  obtain ⟨fuel, hf⟩ := h
  obtain ⟨fs, g1, g2, g3, g4, f0, f1, f2, f3, f4⟩ := act7_fields
  rcases open_slice_fields und_acts7 g1 g2 g3 hf with ⟨hcs, _⟩ | ⟨x, l, c, m, D, hcs, hl, hm, hmm, hi⟩
  · simp [Value.cells] at hcs
    obtain ⟨rfl, rfl, rfl⟩ := hcs
    exact ⟨[], _, _, rfl, Nat.zero_le _, (fun x hx => by cases hx), .inl rfl⟩
  · simp [Value.cells] at hcs
    obtain ⟨rfl, rfl, rfl⟩ := hcs
    have hml : len ≤ m := by rw [hmm]; split <;> omega
    have hx : ∀ i, i < len → ∃ q : Aq7, (q.Ok ∧ Fts W q.fv q.zs) ∧ (W.cell? (x.add (i * 5)) = some (.int .i64 q.k) ∧ W.cell? (x.add (i * 5 + 1)) = some (.int .i64 q.n) ∧ W.cell? (x.add (i * 5 + 2)) = some (.int .i64 q.step) ∧ W.cell? (x.add (i * 5 + 3)) = some (.int .i64 q.fall) ∧ W.cell? (x.add (i * 5 + 4)) = some q.fv) := by
      intro i hil
      obtain ⟨ys, n, hys, hfs⟩ := hi i (by omega)
      have s0 : fs[0]? = some (fs[0]'(by omega)) := Array.getElem?_eq_getElem (by omega)
      have s1 : fs[1]? = some (fs[1]'(by omega)) := Array.getElem?_eq_getElem (by omega)
      have s2 : fs[2]? = some (fs[2]'(by omega)) := Array.getElem?_eq_getElem (by omega)
      have s3 : fs[3]? = some (fs[3]'(by omega)) := Array.getElem?_eq_getElem (by omega)
      have s4 : fs[4]? = some (fs[4]'(by omega)) := Array.getElem?_eq_getElem (by omega)
      obtain ⟨v0, y0, c0, _, t0⟩ := hfs 0 _ s0
      obtain ⟨v1, y1, c1, _, t1⟩ := hfs 1 _ s1
      obtain ⟨v2, y2, c2, _, t2⟩ := hfs 2 _ s2
      obtain ⟨v3, y3, c3, _, t3⟩ := hfs 3 _ s3
      obtain ⟨v4, y4, c4, _, t4⟩ := hfs 4 _ s4
      rw [f0 _ s0] at t0
      rw [f1 _ s1] at t1
      rw [f2 _ s2] at t2
      rw [f3 _ s3] at t3
      rw [f4 _ s4] at t4
      rw [g4] at c0 c1 c2 c3 c4
      obtain ⟨n0, e0, _, w0⟩ := DataW.trod_int und_int7 t0
      obtain ⟨n1, e1, _, w1⟩ := DataW.trod_int und_int7 t1
      obtain ⟨n2, e2, _, w2⟩ := DataW.trod_int und_int7 t2
      obtain ⟨n3, e3, _, w3⟩ := DataW.trod_int und_int7 t3
      obtain ⟨zs, hz⟩ := fts_trod t4
      simp at e0 e1 e2 e3
      subst e0 e1 e2 e3
      exact ⟨⟨n0, n1, n2, n3, v4, zs⟩, ⟨⟨wf_i64 w0, wf_i64 w1, wf_i64 w2, wf_i64 w3⟩, hz⟩, c0, c1, c2, c3, c4⟩
    by_cases hz : len = 0
    · exact ⟨[], some x, cap, by rw [hz]; rfl, Nat.zero_le _, (fun x hx => by cases hx), .inl rfl⟩
    · obtain ⟨q0, _, h0, _⟩ := hx 0 (by omega)
      obtain ⟨b, off, spot⟩ := x
      have hspot : spot = none := by simpa [Addr.add] using World.cell?_spot h0
      subst hspot
      have hadd : ∀ j : Nat, (Addr.add ⟨b, off, none⟩ j : Addr) = ⟨b, off + j, none⟩ := fun j => by simp [Addr.add]
      have hget : ∀ j, j < len → ((List.range len).map fun i => if hil : i < len then Classical.choose (hx i hil) else aq0).getD j aq0 = if hil : j < len then Classical.choose (hx j hil) else aq0 := fun j hj => by
        simp [hj]
      refine ⟨(List.range len).map fun i => if hil : i < len then Classical.choose (hx i hil) else aq0, some ⟨b, off, none⟩, cap, by simp, by simp; omega, ?_, .inr ⟨b, off, rfl, ?_, ?_⟩⟩
      · intro q hq
        obtain ⟨i, hi', rfl⟩ := List.mem_map.1 hq
        rw [dif_pos (List.mem_range.1 hi')]
        exact (Classical.choose_spec (hx i (List.mem_range.1 hi'))).1
      · have := World.block_lt_of_cell? W _ h0
        rwa [hadd] at this
      · intro j hj
        simp only [List.length_map, List.length_range] at hj
        have hspec := (Classical.choose_spec (hx j hj)).2
        rw [hget j hj, dif_pos hj]
        simp only [hadd, Nat.add_assoc] at hspec ⊢
        exact hspec
end
end Go.Proofs.YtiknfifiglooeaaDoor
