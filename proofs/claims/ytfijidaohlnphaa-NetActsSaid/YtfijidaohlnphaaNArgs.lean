/- Arguments that came in: ints, and acts. No conditions beyond those in each statement. -/
import Derived.Test.YtfijidaohlnphaaNList
namespace Go.Proofs.Ytfijidaohlnphaa
open Go.ChangeShapes Go.WideShapes Go.ChangeAt Go.RowKit Go.Deep
set_option linter.unusedVariables false
set_option linter.unusedSimpArgs false
set_option maxRecDepth 100000

theorem und_int8 : Try.prog.underlying 3 = some (.int .i64) := by kernel_rfl
theorem und_ints8 : Try.prog.underlying 50 = some (.slice 3) := by kernel_rfl
theorem und_acts : Try.prog.underlying 22 = some (.slice 31) := by kernel_rfl
/-- A slice of ints that came in. -/
def IntsR (w : World) (v : Value) (ns : List Int) : Prop :=
  ∃ a c, v = .slice a ns.length c ∧ ∀ j, j < ns.length → ∃ g off, a = some ⟨g, off, none⟩ ∧ g < w.heap.size ∧ w.cell? ⟨g, off + j, none⟩ = some (.int .i64 (ns.getD j 0))
/-- A slice of acts that came in. -/
def ActsR (w : World) (v : Value) (n : Nat) : Prop :=
  ∃ a c, v = .slice a n c ∧ ∀ j, j < n → ∃ g off, a = some ⟨g, off, none⟩ ∧ g < w.heap.size ∧ ∃ k d : Int, InR k ∧ InR d ∧ w.cell? ⟨g, off + j * 2, none⟩ = some (.int .i64 k) ∧ w.cell? ⟨g, off + j * 2 + 1, none⟩ = some (.int .i64 d)
theorem act_fields : ∃ fs, Try.prog.underlying 31 = some (.struct fs) ∧ oneCellFields Try.prog fs = true ∧ Try.prog.cellsOf 31 = fs.size ∧ fs.size = 2 ∧
    (∀ f, fs[0]? = some f → f.type = 3) ∧ (∀ f, fs[1]? = some f → f.type = 3) := by
  refine ⟨_, Try.underlying31, by kernel_rfl, by kernel_rfl, rfl, ?_, ?_⟩ <;> (intro f hf; simp at hf; rw [← hf])
section
variable {H : Type} {enc : TypeId × Value → H} {W : World} {base b0 : Nat} {spare : Nat → Bool} {held : Bool} {v : Value} {d : DataW H} {p : List MemPlace}
theorem ints_of (hv : Value.okWide Try.prog W .any b0 50 v) (h : DataW.Trod enc Try.prog W base spare held 50 v d p) : ∃ zs, IntsR W v zs := by
  obtain ⟨a, len, cap, rfl⟩ := okWide_slice und_ints8 hv
  obtain ⟨fuel, hf⟩ := h
  rcases open_ints und_ints8 und_int8 (by kernel_rfl) hf with ⟨hcs, _⟩ | ⟨x, l, c, zs, hcs, _, hl, hm, hz, _, hcell, hwz⟩
  · simp [Value.cells] at hcs
    obtain ⟨rfl, rfl, rfl⟩ := hcs
    exact ⟨[], none, 0, rfl, fun j hj => absurd hj (Nat.not_lt_zero _)⟩
  · simp [Value.cells] at hcs
    obtain ⟨rfl, rfl, rfl⟩ := hcs
    have hlz : len ≤ zs.length := by rw [hz]; split <;> omega
    refine ⟨zs.take len, some x, cap, by rw [List.length_take, Nat.min_eq_left hlz], fun j hj => ?_⟩
    have hj' : j < len := by rw [List.length_take] at hj; omega
    obtain ⟨b, off, spot⟩ := x
    have hc0 := hcell 0 (by omega)
    have hspot : spot = none := by simpa [Addr.add] using World.cell?_spot hc0
    subst hspot
    have hadd : ∀ j : Nat, (Addr.add ⟨b, off, none⟩ j : Addr) = ⟨b, off + j, none⟩ := fun j => by simp [Addr.add]
    refine ⟨b, off, rfl, ?_, ?_⟩
    · rw [hadd] at hc0
      exact World.block_lt_of_cell? W _ hc0
    · have := hcell j (by omega)
      rw [hadd] at this
      rw [this]
      simp [List.getD_eq_getElem?_getD, hj']
theorem acts_of (hv : Value.okWide Try.prog W .any b0 22 v) (h : DataW.Trod enc Try.prog W base spare held 22 v d p) : ∃ n, ActsR W v n := by
  obtain ⟨a, len, cap, rfl⟩ := okWide_slice und_acts hv
  obtain ⟨fuel, hf⟩ := h
  obtain ⟨fs, g1, g2, g3, g4, f0, f1⟩ := act_fields
  rcases open_slice_fields und_acts g1 g2 g3 hf with ⟨hcs, _⟩ | ⟨x, l, c, m, D, hcs, hl, hm, hmm, hi⟩
  · simp [Value.cells] at hcs
    obtain ⟨rfl, rfl, rfl⟩ := hcs
    exact ⟨0, none, 0, rfl, fun j hj => absurd hj (Nat.not_lt_zero _)⟩
  · simp [Value.cells] at hcs
    obtain ⟨rfl, rfl, rfl⟩ := hcs
    have hml : len ≤ m := by rw [hmm]; split <;> omega
    refine ⟨len, some x, cap, rfl, fun i hil => ?_⟩
    obtain ⟨ys, n, hys, hfs⟩ := hi i (by omega)
    have s0 : fs[0]? = some (fs[0]'(by omega)) := Array.getElem?_eq_getElem (by omega)
    have s1 : fs[1]? = some (fs[1]'(by omega)) := Array.getElem?_eq_getElem (by omega)
    obtain ⟨v0, y0, c0, _, t0⟩ := hfs 0 _ s0
    obtain ⟨v1, y1, c1, _, t1⟩ := hfs 1 _ s1
    rw [f0 _ s0] at t0
    rw [f1 _ s1] at t1
    rw [g4] at c0 c1
    obtain ⟨n0, e0, _, w0⟩ := DataW.trod_int und_int8 t0
    obtain ⟨n1, e1, _, w1⟩ := DataW.trod_int und_int8 t1
    simp at e0 e1
    subst e0 e1
    obtain ⟨b, off, spot⟩ := x
    obtain ⟨_, _, hz0, _⟩ := hi 0 (by omega)
    have hspot : spot = none := by
      obtain ⟨ys', n', _, hfs'⟩ := hi 0 (by omega)
      obtain ⟨v9, y9, c9, _⟩ := hfs' 0 _ s0
      simpa [Addr.add] using World.cell?_spot c9
    subst hspot
    have hadd : ∀ j : Nat, (Addr.add ⟨b, off, none⟩ j : Addr) = ⟨b, off + j, none⟩ := fun j => by simp [Addr.add]
    rw [hadd] at c0 c1
    refine ⟨b, off, rfl, World.block_lt_of_cell? W _ c0, n0, n1, inR_of w0, inR_of w1, ?_, ?_⟩
    · simpa using c0
    · simpa [Nat.add_assoc] using c1
end
end Go.Proofs.Ytfijidaohlnphaa
