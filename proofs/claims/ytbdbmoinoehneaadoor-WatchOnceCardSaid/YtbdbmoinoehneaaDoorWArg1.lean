/- An act that came in. No conditions beyond those in each statement. -/
import Derived.Test.YtbdbmoinoehneaaDoorWArgs
namespace Go.Proofs.YtbdbmoinoehneaaDoor
open Go.ChangeShapes Go.WideShapes Go.ChangeAt Go.Deep Go.RowKit
open Go.ChangeMaps (open_string shut_string)
set_option linter.unusedVariables false
set_option linter.unusedSimpArgs false
set_option maxRecDepth 100000

section
variable {H : Type} {enc : TypeId × Value → H} {P : Program} {w : World} {base : Nat} {spare : Nat → Bool} {held : Bool}
theorem open_aggn {r : Reach} {b0 : Nat} {t : TypeId} {fs : Array Field} {v : Value} {d : DataW H} {p : List MemPlace} (hs : P.underlying t = some (.struct fs)) (hone : oneCellFields P fs = true) (hC : P.cellsOf t = fs.size)
    (hv : Value.okWide P w r b0 t v) (h : DataW.Trod enc P w base spare held t v d p) :
    ∃ (cs : Array Value) (n : Nat), v = .agg cs ∧ cs.size = fs.size ∧ ∀ (j : Nat) (f : Field), fs[j]? = some f → ∃ (u : Value) (y : DataW H × List MemPlace), cs[j]? = some u ∧ DataW.trod enc P w base spare held n f.type [u] = some y := by
  obtain ⟨cs, rfl, hsz⟩ := okWide_struct hs hv
  obtain ⟨fuel, hf⟩ := h
  obtain ⟨ys, n, _, _, _, hlen, hff⟩ := DataW.trod_struct hs hf
  refine ⟨cs, n, rfl, hsz.trans hC, fun j f hj => ?_⟩
  obtain ⟨ho, hk⟩ := hone_of hone j f hj
  have hjl : j < fs.size := (Array.getElem?_eq_some_iff.1 hj).1
  have hcl : j < cs.size := by rw [hsz, hC]; exact hjl
  have h1 := hff j f hj
  rw [ho, hk, show (Value.cells (.agg cs)) = cs by simp [Value.cells]] at h1
  have hone' : (cs.toList.drop j).take 1 = [cs[j]] := by
    rw [List.drop_eq_getElem_cons (by simpa using hcl)]
    simp
  rw [hone'] at h1
  have hys : ys[j]? = some (ys[j]'(by omega)) := List.getElem?_eq_getElem (by omega)
  exact ⟨cs[j], _, Array.getElem?_eq_getElem hcl, h1.trans hys⟩
end
/-- An act by itself. -/
def Act1 (w : World) (v : Value) (x : Ac) : Prop := ∃ pa pc, v = .agg #[.int .i64 x.k, .int .i64 x.ses, .int .i64 x.n, .slice pa x.path.length pc, .bool x.kids, .bool x.once] ∧ IntsR w (.slice pa x.path.length pc) x.path
section
variable {H : Type} {enc : TypeId × Value → H} {W : World} {base b0 : Nat} {spare : Nat → Bool} {held : Bool} {v : Value} {d : DataW H} {p : List MemPlace}
theorem act11_of (hv : Value.okWide Tryd.prog W .any b0 35 v) (h : DataW.Trod enc Tryd.prog W base spare held 35 v d p) : ∃ x, Act1 W v x := by
  obtain ⟨fs, g1, g2, g3, g4, f0, f1, f2, f3, f4, f5⟩ := act11_fields
  obtain ⟨cs, n, rfl, hsz, hfs⟩ := open_aggn g1 g2 g3 hv h
  have s0 : fs[0]? = some (fs[0]'(by omega)) := Array.getElem?_eq_getElem (by omega)
  have s1 : fs[1]? = some (fs[1]'(by omega)) := Array.getElem?_eq_getElem (by omega)
  have s2 : fs[2]? = some (fs[2]'(by omega)) := Array.getElem?_eq_getElem (by omega)
  have s3 : fs[3]? = some (fs[3]'(by omega)) := Array.getElem?_eq_getElem (by omega)
  have s4 : fs[4]? = some (fs[4]'(by omega)) := Array.getElem?_eq_getElem (by omega)
  have s5 : fs[5]? = some (fs[5]'(by omega)) := Array.getElem?_eq_getElem (by omega)
  obtain ⟨v0, y0, c0, t0⟩ := hfs 0 _ s0
  obtain ⟨v1, y1, c1, t1⟩ := hfs 1 _ s1
  obtain ⟨v2, y2, c2, t2⟩ := hfs 2 _ s2
  obtain ⟨v3, y3, c3, t3⟩ := hfs 3 _ s3
  obtain ⟨v4, y4, c4, t4⟩ := hfs 4 _ s4
  obtain ⟨v5, y5, c5, t5⟩ := hfs 5 _ s5
  rw [f0 _ s0] at t0
  rw [f1 _ s1] at t1
  rw [f2 _ s2] at t2
  rw [f3 _ s3] at t3
  rw [f4 _ s4] at t4
  rw [f5 _ s5] at t5
  obtain ⟨n0, e0, _, w0⟩ := DataW.trod_int und_int8 t0
  obtain ⟨n1, e1, _, w1⟩ := DataW.trod_int und_int8 t1
  obtain ⟨n2, e2, _, w2⟩ := DataW.trod_int und_int8 t2
  obtain ⟨zs, hz⟩ := ints_trod t3
  obtain ⟨b4, e4, _⟩ := DataW.trod_bool und_bool11 t4
  obtain ⟨b5, e5, _⟩ := DataW.trod_bool und_bool11 t5
  simp at e0 e1 e2 e4 e5
  subst e0 e1 e2 e4 e5
  have hz1 := hz.1
  obtain ⟨pa, pc, hv3, _⟩ := hz1
  subst hv3
  refine ⟨⟨n0, n1, n2, zs, b4, b5⟩, pa, pc, ?_, hz⟩
  congr 1
  refine Array.ext_getElem? fun j => ?_
  by_cases hj : j < 6
  · match j, hj with
    | 0, _ => exact c0
    | 1, _ => exact c1
    | 2, _ => exact c2
    | 3, _ => exact c3
    | 4, _ => exact c4
    | 5, _ => exact c5
  · rw [Array.getElem?_eq_none (by omega), Array.getElem?_eq_none (by simp; omega)]
end
end Go.Proofs.YtbdbmoinoehneaaDoor
