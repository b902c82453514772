/- A slice of parts that came in, as it lies in memory. -/
import Derived.Test.YtefofhejaafgnaaLaw1b
import Derived.Deep.Slices
import Derived.Deep.Fields
import Derived.ChangeSame
import Derived.ProofKit
import Derived.OpenShut
import Derived.ShutString
import Derived.ChangeOld
namespace Go.Proofs.Ytefofhejaafgnaa
open Go.ChangeShapes Go.WideShapes Go.Deep Go.RowKit
set_option linter.unusedVariables false

section
variable {H : Type} {enc : TypeId × Value → H} {P : Program} {w : World} {base : Nat} {spare : Nat → Bool} {held : Bool}
theorem open_slice_fields {t e : TypeId} {fs : Array Field} {fuel : Nat} {cs : List Value} {x : DataW H × List MemPlace} (ht : P.underlying t = some (.slice e)) (he : P.underlying e = some (.struct fs))
    (hone : oneCellFields P fs = true) (hC : P.cellsOf e = fs.size) (h : DataW.trod enc P w base spare held fuel t cs = some x) :
    (cs = [.slice none 0 0] ∧ x = (.nil, [])) ∨
    ∃ (a : Addr) (len cap m : Nat) (D : Nat → DataW H), cs = [.slice (some a) len cap] ∧ len ≤ cap ∧ cap ≤ maxLen ∧ m = (if spare a.block then cap else len) ∧
      ∀ i, i < m → ∃ (ys : List (DataW H × List MemPlace)) (n : Nat), ys.length = fs.size ∧
        ∀ (j : Nat) (f : Field), fs[j]? = some f → ∃ (v : Value) (y : DataW H × List MemPlace), w.cell? (a.add (i * fs.size + j)) = some v ∧ ys[j]? = some y ∧ DataW.trod enc P w base spare held n f.type [v] = some y := by
  rcases open_slice ht h with h0 | ⟨a, len, cap, m, n, D, Pl, hcs, hb, hl, hm, hmm, hx, hi⟩
  · exact .inl h0
  · refine .inr ⟨a, len, cap, m, D, hcs, hl, hm, hmm, fun i him => ?_⟩
    obtain ⟨cs', hc, ht'⟩ := hi i him
    rw [hC] at hc
    obtain ⟨ys, n', hn', hy, hlen, hyl, hf⟩ := DataW.trod_struct he ht'
    obtain ⟨_, hcl, hat⟩ := World.cells?_some hc
    refine ⟨ys, n', hyl, fun j f hj => ?_⟩
    obtain ⟨ho, hk⟩ := hone_of hone j f hj
    have hjl : j < fs.size := (Array.getElem?_eq_some_iff.1 hj).1
    have hcell := hat j hjl
    have hv : cs'[j]? = some (cs'[j]'(by omega)) := List.getElem?_eq_getElem (by omega)
    have h1 := hf j f hj
    rw [ho, hk] at h1
    have hone' : (cs'.drop j).take 1 = [cs'[j]'(by omega)] := by
      rw [List.drop_eq_getElem_cons (by omega)]
      rfl
    rw [hone'] at h1
    have hys : ys[j]? = some (ys[j]'(by omega)) := List.getElem?_eq_getElem (by omega)
    refine ⟨_, _, ?_, hys, h1.trans hys⟩
    rw [← Go.Deep.add_add, hcell, hv]
end

/-- The slice of parts that came in. -/
def IsParts (w : World) (a : Option Addr) (len cap : Nat) (ps : List Pt) : Prop :=
  ps.length = len ∧ len ≤ maxLen ∧ (len = 0 ∨ ∃ b off, a = some ⟨b, off, none⟩ ∧ b < w.heap.size ∧ ∀ j, j < ps.length →
  (w.cell? ⟨b, off + j * 3, none⟩ = some (.int .i64 (ps.getD j pt0).k) ∧ w.cell? ⟨b, off + j * 3 + 1, none⟩ = some (.int .i64 (ps.getD j pt0).n) ∧ w.cell? ⟨b, off + j * 3 + 2, none⟩ = some (.string (ps.getD j pt0).s)) ∧
  (-9223372036854775808 ≤ (ps.getD j pt0).n ∧ (ps.getD j pt0).n ≤ 9223372036854775807) ∧ (ps.getD j pt0).s.size ≤ maxLen)

theorem und_int : Try.prog.underlying 3 = some (.int .i64) := by kernel_rfl
theorem one_fields : ∃ fs, Try.prog.underlying 26 = some (.struct fs) ∧ oneCellFields Try.prog fs = true ∧ Try.prog.cellsOf 26 = fs.size ∧ fs.size = 3 ∧
    (∀ f, fs[0]? = some f → f.type = 3) ∧ (∀ f, fs[1]? = some f → f.type = 3) ∧ (∀ f, fs[2]? = some f → f.type = 9) := by
  refine ⟨_, Try.underlying26, by kernel_rfl, by kernel_rfl, rfl, ?_, ?_, ?_⟩ <;> (intro f hf; simp at hf; rw [← hf])

theorem parts_of {H : Type} {enc : TypeId × Value → H} {W : World} {base : Nat} {spare : Nat → Bool} {held : Bool} {a : Option Addr} {len cap : Nat} {d : DataW H} {p : List MemPlace}
    (h : DataW.Trod enc Try.prog W base spare held 22 (.slice a len cap) d p) : ∃ ps, IsParts W a len cap ps := by
  obtain ⟨fuel, hf⟩ := h
  obtain ⟨fs, g1, g2, g3, g4, f0, f1, f2⟩ := one_fields
  rcases open_slice_fields Try.underlying22 g1 g2 g3 hf with ⟨hcs, _⟩ | ⟨x, l, c, m, D, hcs, hl, hm, hmm, hi⟩
  · simp [Value.cells] at hcs
    obtain ⟨rfl, rfl, rfl⟩ := hcs
    exact ⟨[], rfl, by unfold maxLen; omega, .inl rfl⟩
  · simp [Value.cells] at hcs
    obtain ⟨rfl, rfl, rfl⟩ := hcs
    have hml : len ≤ m := by rw [hmm]; split <;> omega
    have hx : ∀ i, i < len → ∃ q : Pt, (W.cell? (x.add (i * 3)) = some (.int .i64 q.k) ∧ W.cell? (x.add (i * 3 + 1)) = some (.int .i64 q.n) ∧ W.cell? (x.add (i * 3 + 2)) = some (.string q.s)) ∧
        (-9223372036854775808 ≤ q.n ∧ q.n ≤ 9223372036854775807) ∧ q.s.size ≤ maxLen := by
      intro i hil
      obtain ⟨ys, n, hys, hfs⟩ := hi i (by omega)
      have s0 : fs[0]? = some (fs[0]'(by omega)) := Array.getElem?_eq_getElem (by omega)
      have s1 : fs[1]? = some (fs[1]'(by omega)) := Array.getElem?_eq_getElem (by omega)
      have s2 : fs[2]? = some (fs[2]'(by omega)) := Array.getElem?_eq_getElem (by omega)
      obtain ⟨v0, y0, c0, _, t0⟩ := hfs 0 _ s0
      obtain ⟨v1, y1, c1, _, t1⟩ := hfs 1 _ s1
      obtain ⟨v2, y2, c2, _, t2⟩ := hfs 2 _ s2
      rw [f0 _ s0] at t0
      rw [f1 _ s1] at t1
      rw [f2 _ s2] at t2
      rw [g4] at c0 c1 c2
      obtain ⟨k, e0, _, _⟩ := DataW.trod_int und_int t0
      obtain ⟨nn, e1, _, w1⟩ := DataW.trod_int und_int t1
      obtain ⟨s, e2, _, w2⟩ := DataW.trod_string und_string t2
      simp at e0 e1 e2
      subst e0 e1 e2
      exact ⟨⟨k, nn, s⟩, ⟨c0, c1, c2⟩, bounds_i64 w1, w2⟩
    by_cases hz : len = 0
    · exact ⟨[], hz.symm, by omega, .inl hz⟩
    · obtain ⟨q0, ⟨h0, _, _⟩, _, _⟩ := hx 0 (by omega)
      obtain ⟨b, off, spot⟩ := x
      have hspot : spot = none := by simpa [Addr.add] using World.cell?_spot h0
      subst hspot
      have hadd : ∀ j : Nat, (Addr.add ⟨b, off, none⟩ j : Addr) = ⟨b, off + j, none⟩ := fun j => by simp [Addr.add]
      refine ⟨(List.range len).map fun i => if hil : i < len then Classical.choose (hx i hil) else pt0, by simp, by omega, .inr ⟨b, off, rfl, ?_, ?_⟩⟩
      · have := World.block_lt_of_cell? W _ h0
        rwa [hadd] at this
      · intro j hj
        simp only [List.length_map, List.length_range] at hj
        have hspec := Classical.choose_spec (hx j hj)
        have hget : ((List.range len).map fun i => if hil : i < len then Classical.choose (hx i hil) else pt0).getD j pt0 = Classical.choose (hx j hj) := by
          simp [hj]
        rw [hget]
        simp only [hadd, Nat.add_assoc] at hspec ⊢
        exact hspec
end Go.Proofs.Ytefofhejaafgnaa
