/- The law's acts that came in; are they few? No conditions beyond those in each statement. -/
import Derived.Test.YtblcpihfnpgfiaaGreatDoorTreeAct
import Derived.Deep.Slices
import Derived.Deep.Fields
import Derived.SliceStrings
import Derived.ProofKit
import Derived.OpenShut
namespace Go.Proofs.YtblcpihfnpgfiaaGreatDoor
open Go.ChangeShapes Go.WideShapes Go.ChangeAt Go.Deep Go.RowKit
open Go.ChangeMaps (open_string shut_string)
set_option linter.unusedVariables false
set_option linter.unusedSimpArgs false
set_option maxRecDepth 100000

section
variable {H : Type} {enc : TypeId × Value → H} {P : Program} {w : World} {base : Nat} {spare : Nat → Bool} {held : Bool}
theorem open_slice_fields {t e : TypeId} {fs : Array Field} {fuel : Nat} {cs : List Value} {x : DataW H × List MemPlace} (ht : P.underlying t = some (.slice e)) (he : P.underlying e = some (.struct fs))
    (hone : oneCellFields P fs = true) (hC : P.cellsOf e = fs.size) (h : DataW.trod enc P w base spare held fuel t cs = some x) :
    (cs = [.slice none 0 0] ∧ x = (.nil, [])) ∨
    ∃ (a : Addr) (len cap m : Nat) (D : Nat → DataW H), cs = [.slice (some a) len cap] ∧ len ≤ cap ∧ cap ≤ maxLen ∧ m = (if spare a.block then cap else len) ∧
      ∀ i, i < m → ∃ (ys : List (DataW H × List MemPlace)) (n : Nat), ys.length = fs.size ∧
        ∀ (j : Nat) (f : Field), fs[j]? = some f → ∃ (v : Value) (y : DataW H × List MemPlace), w.cell? (a.add (i * fs.size + j)) = some v ∧ ys[j]? = some y ∧ DataW.trod enc P w base spare held n f.type [v] = some y := by
  rcases open_slice ht h with h0 | ⟨a, len, cap, m, n, D, Pl, hcs, hb, hl, hm, hmm, hx, hi⟩
  · exact .inl h0
  · refine .inr ⟨a, len, cap, m, D, hcs, hl, hm, hmm, fun i him => ?_⟩
    obtain ⟨cs', hc, ht'⟩ := hi i him
    rw [hC] at hc
    obtain ⟨ys, n', hn', hy, hlen, hyl, hf⟩ := DataW.trod_struct he ht'
    obtain ⟨_, hcl, hat⟩ := World.cells?_some hc
    refine ⟨ys, n', hyl, fun j f hj => ?_⟩
    obtain ⟨ho, hk⟩ := hone_of hone j f hj
    have hjl : j < fs.size := (Array.getElem?_eq_some_iff.1 hj).1
    have hcell := hat j hjl
    have hv : cs'[j]? = some (cs'[j]'(by omega)) := List.getElem?_eq_getElem (by omega)
    have h1 := hf j f hj
    rw [ho, hk] at h1
    have hone' : (cs'.drop j).take 1 = [cs'[j]'(by omega)] := by
      rw [List.drop_eq_getElem_cons (by omega)]
      rfl
    rw [hone'] at h1
    have hys : ys[j]? = some (ys[j]'(by omega)) := List.getElem?_eq_getElem (by omega)
    refine ⟨_, _, ?_, hys, h1.trans hys⟩
    rw [← Go.Deep.add_add, hcell, hv]
end
/-- An act with its slice of parts. -/
structure Aq where
  a : Ac
  pv : Value
def aq0 : Aq := ⟨⟨0, 0, 0, [], ByteArray.empty, ByteArray.empty, false⟩, .slice none 0 0⟩
structure Ac.Ok (a : Ac) : Prop where
  k : (Lit.int .i64 a.k).wf = true
  ver : (Lit.int .i64 a.ver).wf = true
  owner : (Lit.int .i64 a.owner).wf = true
  raw : a.raw.size ≤ maxLen
  data : a.data.size ≤ maxLen
def AqC (w : World) (g o : Nat) (q : Aq) : Prop :=
  w.cell? ⟨g, o, none⟩ = some (.int .i64 q.a.k) ∧ w.cell? ⟨g, o + 1, none⟩ = some (.int .i64 q.a.ver) ∧ w.cell? ⟨g, o + 2, none⟩ = some (.int .i64 q.a.owner) ∧ w.cell? ⟨g, o + 3, none⟩ = some q.pv ∧
    w.cell? ⟨g, o + 4, none⟩ = some (.string q.a.raw) ∧ w.cell? ⟨g, o + 5, none⟩ = some (.string q.a.data) ∧ w.cell? ⟨g, o + 6, none⟩ = some (.bool q.a.serial)
/-- A slice of acts that can be read. -/
def Acts9 (w : World) (v : Value) (qs : List Aq) : Prop :=
  ∃ a cap, v = .slice a qs.length cap ∧ qs.length ≤ maxLen ∧ (∀ x ∈ qs, x.a.Ok ∧ IntsR w x.pv x.a.path) ∧ (qs.length = 0 ∨ ∃ g off, a = some ⟨g, off, none⟩ ∧ g < w.heap.size ∧ ∀ j, j < qs.length → AqC w g (off + j * 7) (qs.getD j aq0))
theorem AqC.below {w x : World} {g o : Nat} {q : Aq} (h : AqC w g o q) (hb : Below w.heap.size w x) (hg : g < w.heap.size) : AqC x g o q := by
  obtain ⟨h0, h1, h2, h3, h4, h5, h6⟩ := h
  exact ⟨(hb.cell (p := ⟨g, _, none⟩) hg).trans h0, (hb.cell (p := ⟨g, _, none⟩) hg).trans h1, (hb.cell (p := ⟨g, _, none⟩) hg).trans h2, (hb.cell (p := ⟨g, _, none⟩) hg).trans h3, (hb.cell (p := ⟨g, _, none⟩) hg).trans h4, (hb.cell (p := ⟨g, _, none⟩) hg).trans h5, (hb.cell (p := ⟨g, _, none⟩) hg).trans h6⟩
theorem Acts9.below {w x : World} {v : Value} {qs : List Aq} (h : Acts9 w v qs) (hb : Below w.heap.size w x) : Acts9 x v qs := by
  obtain ⟨a, cap, hv, hm, ho, h⟩ := h
  refine ⟨a, cap, hv, hm, fun q hq => ⟨(ho q hq).1, (ho q hq).2.1.below hb, (ho q hq).2.2⟩, h.imp id ?_⟩
  rintro ⟨g, off, ha, hg, hc⟩
  exact ⟨g, off, ha, Nat.lt_of_lt_of_le hg hb.size, fun j hj => (hc j hj).below hb hg⟩
/-- The cells of an act, in a world that has grown. -/
theorem act9_at {w x : World} {a : Option Addr} {cap k : Nat} {qs : List Aq} (h : Acts9 w (.slice a qs.length cap) qs) (hb : Below w.heap.size w x) (hk : k < qs.length) : (qs.getD k aq0).a.Ok ∧ IntsR x (qs.getD k aq0).pv (qs.getD k aq0).a.path ∧ ∃ g off, a = some ⟨g, off, none⟩ ∧ AqC x g (off + k * 7) (qs.getD k aq0) := by
  obtain ⟨_, _, e0, _, ho, h⟩ := h.below hb
  obtain ⟨rfl, rfl⟩ : a = _ ∧ cap = _ := by simpa using e0
  have hm : qs.getD k aq0 ∈ qs := by
    rw [List.getD_eq_getElem?_getD, List.getElem?_eq_getElem hk]
    exact List.getElem_mem hk
  refine ⟨(ho _ hm).1, (ho _ hm).2, ?_⟩
  rcases h with h | ⟨g, off, rfl, hg, hc⟩
  · omega
  · exact ⟨g, off, rfl, hc k hk⟩
section
variable {H : Type} {enc : TypeId × Value → H} {W : World} {base b0 : Nat} {spare : Nat → Bool} {held : Bool} {v : Value} {d : DataW H} {p : List MemPlace}
theorem und_bool9' : Tryz.prog.underlying 4 = some .bool := by kernel_rfl
theorem und_acts9 : Tryz.prog.underlying 22 = some (.slice 31) := by kernel_rfl
theorem act9_fields : ∃ fs, Tryz.prog.underlying 31 = some (.struct fs) ∧ oneCellFields Tryz.prog fs = true ∧ Tryz.prog.cellsOf 31 = fs.size ∧ fs.size = 7 ∧
    (∀ f, fs[0]? = some f → f.type = 3) ∧ (∀ f, fs[1]? = some f → f.type = 3) ∧ (∀ f, fs[2]? = some f → f.type = 3) ∧ (∀ f, fs[3]? = some f → f.type = 29) ∧ (∀ f, fs[4]? = some f → f.type = 9) ∧ (∀ f, fs[5]? = some f → f.type = 9) ∧ (∀ f, fs[6]? = some f → f.type = 4) := by
  refine ⟨_, Tryz.underlying31, by kernel_rfl, by kernel_rfl, rfl, ?_, ?_, ?_, ?_, ?_, ?_, ?_⟩ <;> (intro f hf; simp at hf; rw [← hf])
theorem ints_trod {n : Nat} {v : Value} {y : DataW H × List MemPlace} (hf : DataW.trod enc Tryz.prog W base spare held n 29 [v] = some y) : ∃ zs, IntsR W v zs := by
  have hv : v.cells = #[v] := by
    rcases open_ints und_ints8 und_int8 (by kernel_rfl) hf with ⟨hcs, _⟩ | ⟨x, l, c, zs, hcs, _⟩
    · obtain rfl : v = .slice none 0 0 := by simpa using hcs
      rfl
    · obtain rfl : v = .slice (some x) l c := by simpa using hcs
      rfl
  rcases open_ints und_ints8 und_int8 (by kernel_rfl) hf with ⟨hcs, _⟩ | ⟨x, l, c, zs, hcs, _, hl, hm, hz, _, hcell, hwz⟩
  · obtain rfl : v = .slice none 0 0 := by simpa using hcs
    exact ⟨[], ⟨none, 0, rfl, Nat.le_refl _, by decide, .inl rfl⟩, fun n hn => by cases hn⟩
  · obtain rfl : v = .slice (some x) l c := by simpa using hcs
    have hlz : l ≤ zs.length := by rw [hz]; split <;> omega
    refine ⟨zs.take l, ⟨some x, c, by rw [List.length_take, Nat.min_eq_left hlz], by rw [List.length_take]; omega, hm, ?_⟩, fun n hn => hwz n (List.mem_of_mem_take hn)⟩
    by_cases h0 : l = 0
    · exact .inl (by rw [List.length_take]; omega)
    · obtain ⟨b, off, spot⟩ := x
      have hc0 := hcell 0 (by omega)
      have hspot : spot = none := by simpa [Addr.add] using World.cell?_spot hc0
      subst hspot
      have hadd : ∀ j : Nat, (Addr.add ⟨b, off, none⟩ j : Addr) = ⟨b, off + j, none⟩ := fun j => by simp [Addr.add]
      refine .inr ⟨b, off, rfl, ?_, fun j hj => ?_⟩
      · rw [hadd] at hc0
        exact World.block_lt_of_cell? W _ hc0
      · have hj' : j < l := by rw [List.length_take] at hj; omega
        have := hcell j (by omega)
        rw [hadd] at this
        rw [this]
        simp [List.getD_eq_getElem?_getD, hj']
theorem acts9_of (hv : Value.okWide Tryz.prog W .any b0 22 v) (h : DataW.Trod enc Tryz.prog W base spare held 22 v d p) : ∃ qs, Acts9 W v qs := by
  obtain ⟨a, len, cap, rfl⟩ := okWide_slice und_acts9 hv
  obtain ⟨fuel, hf⟩ := h
  obtain ⟨fs, g1, g2, g3, g4, f0, f1, f2, f3, f4, f5, f6⟩ := act9_fields
  rcases open_slice_fields und_acts9 g1 g2 g3 hf with ⟨hcs, _⟩ | ⟨x, l, c, m, D, hcs, hl, hm, hmm, hi⟩
  · simp [Value.cells] at hcs
    obtain ⟨rfl, rfl, rfl⟩ := hcs
    exact ⟨[], _, _, rfl, Nat.zero_le _, (fun x hx => by cases hx), .inl rfl⟩
  · simp [Value.cells] at hcs
    obtain ⟨rfl, rfl, rfl⟩ := hcs
    have hml : len ≤ m := by rw [hmm]; split <;> omega
    have hx : ∀ i, i < len → ∃ q : Aq, (q.a.Ok ∧ IntsR W q.pv q.a.path) ∧ (W.cell? (x.add (i * 7)) = some (.int .i64 q.a.k) ∧ W.cell? (x.add (i * 7 + 1)) = some (.int .i64 q.a.ver) ∧ W.cell? (x.add (i * 7 + 2)) = some (.int .i64 q.a.owner) ∧ W.cell? (x.add (i * 7 + 3)) = some q.pv ∧ W.cell? (x.add (i * 7 + 4)) = some (.string q.a.raw) ∧ W.cell? (x.add (i * 7 + 5)) = some (.string q.a.data) ∧ W.cell? (x.add (i * 7 + 6)) = some (.bool q.a.serial)) := by
      intro i hil
      obtain ⟨ys, n, hys, hfs⟩ := hi i (by omega)
      have s0 : fs[0]? = some (fs[0]'(by omega)) := Array.getElem?_eq_getElem (by omega)
      have s1 : fs[1]? = some (fs[1]'(by omega)) := Array.getElem?_eq_getElem (by omega)
      have s2 : fs[2]? = some (fs[2]'(by omega)) := Array.getElem?_eq_getElem (by omega)
      have s3 : fs[3]? = some (fs[3]'(by omega)) := Array.getElem?_eq_getElem (by omega)
      have s4 : fs[4]? = some (fs[4]'(by omega)) := Array.getElem?_eq_getElem (by omega)
      have s5 : fs[5]? = some (fs[5]'(by omega)) := Array.getElem?_eq_getElem (by omega)
      have s6 : fs[6]? = some (fs[6]'(by omega)) := Array.getElem?_eq_getElem (by omega)
      obtain ⟨v0, y0, c0, _, t0⟩ := hfs 0 _ s0
      obtain ⟨v1, y1, c1, _, t1⟩ := hfs 1 _ s1
      obtain ⟨v2, y2, c2, _, t2⟩ := hfs 2 _ s2
      obtain ⟨v3, y3, c3, _, t3⟩ := hfs 3 _ s3
      obtain ⟨v4, y4, c4, _, t4⟩ := hfs 4 _ s4
      obtain ⟨v5, y5, c5, _, t5⟩ := hfs 5 _ s5
      obtain ⟨v6, y6, c6, _, t6⟩ := hfs 6 _ s6
      rw [f0 _ s0] at t0
      rw [f1 _ s1] at t1
      rw [f2 _ s2] at t2
      rw [f3 _ s3] at t3
      rw [f4 _ s4] at t4
      rw [f5 _ s5] at t5
      rw [f6 _ s6] at t6
      rw [g4] at c0 c1 c2 c3 c4 c5 c6
      obtain ⟨n0, e0, _, w0⟩ := DataW.trod_int und_int8 t0
      obtain ⟨n1, e1, _, w1⟩ := DataW.trod_int und_int8 t1
      obtain ⟨n2, e2, _, w2⟩ := DataW.trod_int und_int8 t2
      obtain ⟨zs, hz⟩ := ints_trod t3
      obtain ⟨s, e4, _, w4⟩ := DataW.trod_string und_str9 t4
      obtain ⟨s', e5, _, w5⟩ := DataW.trod_string und_str9 t5
      obtain ⟨bb, e6, _⟩ := DataW.trod_bool und_bool9' t6
      simp at e0 e1 e2 e4 e5 e6
      subst e0 e1 e2 e4 e5 e6
      exact ⟨⟨⟨n0, n1, n2, zs, s, s', bb⟩, v3⟩, ⟨⟨w0, w1, w2, w4, w5⟩, hz⟩, c0, c1, c2, c3, c4, c5, c6⟩
    by_cases hz : len = 0
    · exact ⟨[], some x, cap, by rw [hz]; rfl, Nat.zero_le _, (fun x hx => by cases hx), .inl rfl⟩
    · obtain ⟨q0, _, h0, _⟩ := hx 0 (by omega)
      obtain ⟨b, off, spot⟩ := x
      have hspot : spot = none := by simpa [Addr.add] using World.cell?_spot h0
      subst hspot
      have hadd : ∀ j : Nat, (Addr.add ⟨b, off, none⟩ j : Addr) = ⟨b, off + j, none⟩ := fun j => by simp [Addr.add]
      have hget : ∀ j, j < len → ((List.range len).map fun i => if hil : i < len then Classical.choose (hx i hil) else aq0).getD j aq0 = if hil : j < len then Classical.choose (hx j hil) else aq0 := fun j hj => by
        simp [hj]
      refine ⟨(List.range len).map fun i => if hil : i < len then Classical.choose (hx i hil) else aq0, some ⟨b, off, none⟩, cap, by simp, by simp; omega, ?_, .inr ⟨b, off, rfl, ?_, ?_⟩⟩
      · intro q hq
        obtain ⟨i, hi', rfl⟩ := List.mem_map.1 hq
        rw [dif_pos (List.mem_range.1 hi')]
        exact (Classical.choose_spec (hx i (List.mem_range.1 hi'))).1
      · have := World.block_lt_of_cell? W _ h0
        rwa [hadd] at this
      · intro j hj
        simp only [List.length_map, List.length_range] at hj
        have hspec := (Classical.choose_spec (hx j hj)).2
        rw [hget j hj, dif_pos hj]
        unfold AqC
        simp only [hadd, Nat.add_assoc] at hspec ⊢
        exact hspec
end
end Go.Proofs.YtblcpihfnpgfiaaGreatDoor
