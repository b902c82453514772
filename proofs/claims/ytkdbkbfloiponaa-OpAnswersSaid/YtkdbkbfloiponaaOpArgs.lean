/- The law's arguments that came in: operations, commands. No conditions beyond those in each statement. -/
import Derived.Test.YtkdbkbfloiponaaOpHead
import Derived.OpenShut
import Derived.ShutString
import Derived.ChangeOld
import Derived.Lay
import Derived.Deep.DeepHandedRow
import Derived.Deep.Slices
import Derived.Deep.Fields
import Derived.SliceStrings
import Derived.DataShut
import Derived.Lib.AppendZeros
namespace Go.Proofs.Ytkdbkbfloiponaa
open Go.ChangeShapes Go.WideShapes Go.ChangeAt Go.Deep Go.RowKit
open Go.ChangeMaps (open_string shut_string)
set_option linter.unusedVariables false
set_option maxRecDepth 100000

section
variable {H : Type} {enc : TypeId × Value → H} {P : Program} {w : World} {base : Nat} {spare : Nat → Bool} {held : Bool}
theorem open_slice_fields {t e : TypeId} {fs : Array Field} {fuel : Nat} {cs : List Value} {x : DataW H × List MemPlace} (ht : P.underlying t = some (.slice e)) (he : P.underlying e = some (.struct fs))
    (hone : oneCellFields P fs = true) (hC : P.cellsOf e = fs.size) (h : DataW.trod enc P w base spare held fuel t cs = some x) :
    (cs = [.slice none 0 0] ∧ x = (.nil, [])) ∨
    ∃ (a : Addr) (len cap m : Nat) (D : Nat → DataW H), cs = [.slice (some a) len cap] ∧ len ≤ cap ∧ cap ≤ maxLen ∧ m = (if spare a.block then cap else len) ∧
      ∀ i, i < m → ∃ (ys : List (DataW H × List MemPlace)) (n : Nat), ys.length = fs.size ∧
        ∀ (j : Nat) (f : Field), fs[j]? = some f → ∃ (v : Value) (y : DataW H × List MemPlace), w.cell? (a.add (i * fs.size + j)) = some v ∧ ys[j]? = some y ∧ DataW.trod enc P w base spare held n f.type [v] = some y := by
  rcases open_slice ht h with h0 | ⟨a, len, cap, m, n, D, Pl, hcs, hb, hl, hm, hmm, hx, hi⟩
  · exact .inl h0
  · refine .inr ⟨a, len, cap, m, D, hcs, hl, hm, hmm, fun i him => ?_⟩
    obtain ⟨cs', hc, ht'⟩ := hi i him
    rw [hC] at hc
    obtain ⟨ys, n', hn', hy, hlen, hyl, hf⟩ := DataW.trod_struct he ht'
    obtain ⟨_, hcl, hat⟩ := World.cells?_some hc
    refine ⟨ys, n', hyl, fun j f hj => ?_⟩
    obtain ⟨ho, hk⟩ := hone_of hone j f hj
    have hjl : j < fs.size := (Array.getElem?_eq_some_iff.1 hj).1
    have hcell := hat j hjl
    have hv : cs'[j]? = some (cs'[j]'(by omega)) := List.getElem?_eq_getElem (by omega)
    have h1 := hf j f hj
    rw [ho, hk] at h1
    have hone' : (cs'.drop j).take 1 = [cs'[j]'(by omega)] := by
      rw [List.drop_eq_getElem_cons (by omega)]
      rfl
    rw [hone'] at h1
    have hys : ys[j]? = some (ys[j]'(by omega)) := List.getElem?_eq_getElem (by omega)
    refine ⟨_, _, ?_, hys, h1.trans hys⟩
    rw [← Go.Deep.add_add, hcell, hv]
end
section
variable {H : Type} {enc : TypeId × Value → H} {P : Program} {w : World} {base : Nat} {spare : Nat → Bool} {held : Bool}
theorem open_aggn {r : Reach} {b0 : Nat} {t : TypeId} {fs : Array Field} {v : Value} {d : DataW H} {p : List MemPlace} (hs : P.underlying t = some (.struct fs)) (hone : oneCellFields P fs = true) (hC : P.cellsOf t = fs.size)
    (hv : Value.okWide P w r b0 t v) (h : DataW.Trod enc P w base spare held t v d p) :
    ∃ (cs : Array Value) (n : Nat), v = .agg cs ∧ cs.size = fs.size ∧ ∀ (j : Nat) (f : Field), fs[j]? = some f → ∃ (u : Value) (y : DataW H × List MemPlace), cs[j]? = some u ∧ DataW.trod enc P w base spare held n f.type [u] = some y := by
  obtain ⟨cs, rfl, hsz⟩ := okWide_struct hs hv
  obtain ⟨fuel, hf⟩ := h
  obtain ⟨ys, n, _, _, _, hlen, hff⟩ := DataW.trod_struct hs hf
  refine ⟨cs, n, rfl, hsz.trans hC, fun j f hj => ?_⟩
  obtain ⟨ho, hk⟩ := hone_of hone j f hj
  have hjl : j < fs.size := (Array.getElem?_eq_some_iff.1 hj).1
  have hcl : j < cs.size := by rw [hsz, hC]; exact hjl
  have h1 := hff j f hj
  rw [ho, hk, show (Value.cells (.agg cs)) = cs by simp [Value.cells]] at h1
  have hone' : (cs.toList.drop j).take 1 = [cs[j]] := by
    rw [List.drop_eq_getElem_cons (by simpa using hcl)]
    simp
  rw [hone'] at h1
  have hys : ys[j]? = some (ys[j]'(by omega)) := List.getElem?_eq_getElem (by omega)
  exact ⟨cs[j], _, Array.getElem?_eq_getElem hcl, h1.trans hys⟩
end
theorem inR_of {z : Int} (h : (Lit.int .i64 z).wf = true) : InR z := by
  have := (Lit.wf_int_iff .i64 z).1 h
  rw [show IntKind.i64.min = -9223372036854775808 by decide, show IntKind.i64.max = 9223372036854775807 by decide] at this
  exact this
section
variable {H : Type} {enc : TypeId × Value → H} {W : World} {base b0 : Nat} {spare : Nat → Bool} {held : Bool} {v : Value} {d : DataW H} {p : List MemPlace}
theorem und_int8 : Try.prog.underlying 3 = some (.int .i64) := by kernel_rfl
theorem und_does : Try.prog.underlying 48 = some (.int .i64) := by kernel_rfl
theorem und_kind : Try.prog.underlying 23 = some (.int .i64) := by kernel_rfl
theorem und_bool : Try.prog.underlying 4 = some .bool := by kernel_rfl
theorem op_fields : ∃ fs, Try.prog.underlying 50 = some (.struct fs) ∧ oneCellFields Try.prog fs = true ∧ Try.prog.cellsOf 50 = fs.size ∧ fs.size = 6 ∧
    (∀ f, fs[0]? = some f → f.type = 48) ∧ (∀ f, fs[1]? = some f → f.type = 9) ∧ (∀ f, fs[2]? = some f → f.type = 9) ∧ (∀ f, fs[3]? = some f → f.type = 3) ∧ (∀ f, fs[4]? = some f → f.type = 4) ∧ (∀ f, fs[5]? = some f → f.type = 4) := by
  refine ⟨_, Try.underlying50, by kernel_rfl, by kernel_rfl, rfl, ?_, ?_, ?_, ?_, ?_, ?_⟩ <;> (intro f hf; simp at hf; rw [← hf])
theorem ops_trod {fuel : Nat} {x : DataW H × List MemPlace} (hf : DataW.trod enc Try.prog W base spare held fuel 24 [v] = some x) : ∃ L, OpsR W v L := by
  obtain ⟨fs, g1, g2, g3, g4, f0, f1, f2, f3, f4, f5⟩ := op_fields
  rcases open_slice_fields und_ops g1 g2 g3 hf with ⟨hcs, _⟩ | ⟨x, len, cap, m, D, hcs, hl, hm, hmm, hi⟩
  · obtain rfl := List.head_eq_of_cons_eq hcs
    exact ⟨[], _, _, rfl, Nat.zero_le _, (fun x hx => by cases hx), .inl rfl⟩
  · obtain rfl := List.head_eq_of_cons_eq hcs
    have hml : len ≤ m := by rw [hmm]; split <;> omega
    have hx : ∀ i, i < len → ∃ q : Opr, q.Ok ∧ (W.cell? (x.add (i * 6)) = some (.int .i64 q.does) ∧ W.cell? (x.add (i * 6 + 1)) = some (.string q.path) ∧ W.cell? (x.add (i * 6 + 2)) = some (.string q.data) ∧ W.cell? (x.add (i * 6 + 3)) = some (.int .i64 q.ver) ∧ W.cell? (x.add (i * 6 + 4)) = some (.bool q.ser) ∧ W.cell? (x.add (i * 6 + 5)) = some (.bool q.own)) := by
      intro i hil
      obtain ⟨ys, n, hys, hfs⟩ := hi i (by omega)
      have s0 : fs[0]? = some (fs[0]'(by omega)) := Array.getElem?_eq_getElem (by omega)
      have s1 : fs[1]? = some (fs[1]'(by omega)) := Array.getElem?_eq_getElem (by omega)
      have s2 : fs[2]? = some (fs[2]'(by omega)) := Array.getElem?_eq_getElem (by omega)
      have s3 : fs[3]? = some (fs[3]'(by omega)) := Array.getElem?_eq_getElem (by omega)
      have s4 : fs[4]? = some (fs[4]'(by omega)) := Array.getElem?_eq_getElem (by omega)
      have s5 : fs[5]? = some (fs[5]'(by omega)) := Array.getElem?_eq_getElem (by omega)
      obtain ⟨v0, y0, c0, _, t0⟩ := hfs 0 _ s0
      obtain ⟨v1, y1, c1, _, t1⟩ := hfs 1 _ s1
      obtain ⟨v2, y2, c2, _, t2⟩ := hfs 2 _ s2
      obtain ⟨v3, y3, c3, _, t3⟩ := hfs 3 _ s3
      obtain ⟨v4, y4, c4, _, t4⟩ := hfs 4 _ s4
      obtain ⟨v5, y5, c5, _, t5⟩ := hfs 5 _ s5
      rw [f0 _ s0] at t0
      rw [f1 _ s1] at t1
      rw [f2 _ s2] at t2
      rw [f3 _ s3] at t3
      rw [f4 _ s4] at t4
      rw [f5 _ s5] at t5
      rw [g4] at c0 c1 c2 c3 c4 c5
      obtain ⟨n0, e0, _, w0⟩ := DataW.trod_int und_does t0
      obtain ⟨p1, e1, _, w1⟩ := DataW.trod_string und_string t1
      obtain ⟨p2, e2, _, w2⟩ := DataW.trod_string und_string t2
      obtain ⟨n3, e3, _, w3⟩ := DataW.trod_int und_int8 t3
      obtain ⟨x4, e4, _⟩ := DataW.trod_bool und_bool t4
      obtain ⟨x5, e5, _⟩ := DataW.trod_bool und_bool t5
      simp at e0 e1 e2 e3 e4 e5
      subst e0 e1 e2 e3 e4 e5
      exact ⟨⟨n0, p1, p2, n3, x4, x5⟩, ⟨inR_of w0, w1, w2, inR_of w3⟩, c0, c1, c2, c3, c4, c5⟩
    by_cases hz : len = 0
    · exact ⟨[], some x, cap, by rw [hz]; rfl, Nat.zero_le _, (fun x hx => by cases hx), .inl rfl⟩
    · obtain ⟨q0, _, h0, _⟩ := hx 0 (by omega)
      obtain ⟨b, off, spot⟩ := x
      have hspot : spot = none := by simpa [Addr.add] using World.cell?_spot h0
      subst hspot
      have hadd : ∀ j : Nat, (Addr.add ⟨b, off, none⟩ j : Addr) = ⟨b, off + j, none⟩ := fun j => by simp [Addr.add]
      have hget : ∀ j, j < len → ((List.range len).map fun i => if hil : i < len then Classical.choose (hx i hil) else Opr.zero).getD j Opr.zero = if hil : j < len then Classical.choose (hx j hil) else Opr.zero := fun j hj => by
        simp [hj]
      refine ⟨(List.range len).map fun i => if hil : i < len then Classical.choose (hx i hil) else Opr.zero, some ⟨b, off, none⟩, cap, by simp, by simp; omega, ?_, .inr ⟨b, off, rfl, ?_, ?_⟩⟩
      · intro q hq
        obtain ⟨i, hi', rfl⟩ := List.mem_map.1 hq
        rw [dif_pos (List.mem_range.1 hi')]
        exact (Classical.choose_spec (hx i (List.mem_range.1 hi'))).1
      · have := World.block_lt_of_cell? W _ h0
        rwa [hadd] at this
      · intro j hj
        simp only [List.length_map, List.length_range] at hj
        have hspec := (Classical.choose_spec (hx j hj)).2
        rw [hget j hj, dif_pos hj]
        unfold OpC
        simp only [hadd, Nat.add_assoc] at hspec ⊢
        exact hspec
theorem ops_of (hv : Value.okWide Try.prog W .any b0 24 v) (h : DataW.Trod enc Try.prog W base spare held 24 v d p) : ∃ L, OpsR W v L := by
  obtain ⟨a, len, cap, rfl⟩ := okWide_slice und_ops hv
  obtain ⟨fuel, hf⟩ := h
  exact ops_trod (by simpa [Value.cells] using hf)
theorem cm_fields : ∃ fs, Try.prog.underlying 26 = some (.struct fs) ∧ oneCellFields Try.prog fs = true ∧ Try.prog.cellsOf 26 = fs.size ∧ fs.size = 8 ∧
    (∀ f, fs[0]? = some f → f.type = 23) ∧ (∀ f, fs[1]? = some f → f.type = 3) ∧ (∀ f, fs[2]? = some f → f.type = 3) ∧ (∀ f, fs[3]? = some f → f.type = 3) ∧ (∀ f, fs[4]? = some f → f.type = 24) ∧ (∀ f, fs[5]? = some f → f.type = 9) ∧ (∀ f, fs[6]? = some f → f.type = 4) ∧ (∀ f, fs[7]? = some f → f.type = 4) := by
  refine ⟨_, Try.underlying26, by kernel_rfl, by kernel_rfl, rfl, ?_, ?_, ?_, ?_, ?_, ?_, ?_, ?_⟩ <;> (intro f hf; simp at hf; rw [← hf])
theorem cmd_of (hv : Value.okWide Try.prog W .any b0 26 v) (h : DataW.Trod enc Try.prog W base spare held 26 v d p) : ∃ c, CmR W v c := by
  obtain ⟨fs, g1, g2, g3, g4, f0, f1, f2, f3, f4, f5, f6, f7⟩ := cm_fields
  obtain ⟨cs, n, rfl, hsz, hfs⟩ := open_aggn g1 g2 g3 hv h
  have s0 : fs[0]? = some (fs[0]'(by omega)) := Array.getElem?_eq_getElem (by omega)
  have s1 : fs[1]? = some (fs[1]'(by omega)) := Array.getElem?_eq_getElem (by omega)
  have s2 : fs[2]? = some (fs[2]'(by omega)) := Array.getElem?_eq_getElem (by omega)
  have s3 : fs[3]? = some (fs[3]'(by omega)) := Array.getElem?_eq_getElem (by omega)
  have s4 : fs[4]? = some (fs[4]'(by omega)) := Array.getElem?_eq_getElem (by omega)
  have s5 : fs[5]? = some (fs[5]'(by omega)) := Array.getElem?_eq_getElem (by omega)
  have s6 : fs[6]? = some (fs[6]'(by omega)) := Array.getElem?_eq_getElem (by omega)
  have s7 : fs[7]? = some (fs[7]'(by omega)) := Array.getElem?_eq_getElem (by omega)
  obtain ⟨v0, y0, c0, t0⟩ := hfs 0 _ s0
  obtain ⟨v1, y1, c1, t1⟩ := hfs 1 _ s1
  obtain ⟨v2, y2, c2, t2⟩ := hfs 2 _ s2
  obtain ⟨v3, y3, c3, t3⟩ := hfs 3 _ s3
  obtain ⟨v4, y4, c4, t4⟩ := hfs 4 _ s4
  obtain ⟨v5, y5, c5, t5⟩ := hfs 5 _ s5
  obtain ⟨v6, y6, c6, t6⟩ := hfs 6 _ s6
  obtain ⟨v7, y7, c7, t7⟩ := hfs 7 _ s7
  rw [f0 _ s0] at t0
  rw [f1 _ s1] at t1
  rw [f2 _ s2] at t2
  rw [f3 _ s3] at t3
  rw [f4 _ s4] at t4
  rw [f5 _ s5] at t5
  rw [f6 _ s6] at t6
  rw [f7 _ s7] at t7
  obtain ⟨n0, e0, _, w0⟩ := DataW.trod_int und_kind t0
  obtain ⟨n1, e1, _, w1⟩ := DataW.trod_int und_int8 t1
  obtain ⟨n2, e2, _, w2⟩ := DataW.trod_int und_int8 t2
  obtain ⟨n3, e3, _, w3⟩ := DataW.trod_int und_int8 t3
  obtain ⟨L, hL⟩ := ops_trod t4
  obtain ⟨p5, e5, _, w5⟩ := DataW.trod_string und_string t5
  obtain ⟨x6, e6, _⟩ := DataW.trod_bool und_bool t6
  obtain ⟨x7, e7, _⟩ := DataW.trod_bool und_bool t7
  simp at e0 e1 e2 e3 e5 e6 e7
  subst e0 e1 e2 e3 e5 e6 e7
  refine ⟨⟨n0, n1, n2, n3, L, p5, x6, x7⟩, ⟨inR_of w0, inR_of w1, inR_of w2, inR_of w3, w5⟩, v4, ?_, hL⟩
  unfold cmV
  congr 1
  refine Array.ext_getElem? fun j => ?_
  by_cases hj : j < 8
  · match j, hj with
    | 0, _ => exact c0
    | 1, _ => exact c1
    | 2, _ => exact c2
    | 3, _ => exact c3
    | 4, _ => exact c4
    | 5, _ => exact c5
    | 6, _ => exact c6
    | 7, _ => exact c7
  · rw [Array.getElem?_eq_none (by omega), Array.getElem?_eq_none (by simp; omega)]
end
end Go.Proofs.Ytkdbkbfloiponaa
