/- The slices that came in: of fates, of strings. -/
import Derived.Test.YtiknfifiglooeaaDoorDevFate
import Derived.SliceStrings
import Derived.ProofKit
import Derived.OpenShut
import Derived.ShutString
import Derived.ChangeOld
namespace Go.Proofs.YtiknfifiglooeaaDoor
open Go.ChangeShapes Go.WideShapes Go.ChangeAt Go.RowKit
open Go.ChangeMaps (open_string shut_string)
set_option linter.unusedVariables false
set_option maxRecDepth 100000

theorem read_of {D : Dv} {b : Blk} (k : Nat) (hd : D.down = false) (hb : D.bs[k]? = some b) (hl : b.lost = false) : D.read (k : Int) = (b.contents, 0) := by
  have hk := (List.getElem?_eq_some_iff.1 hb).1
  have hh : D.hasB (k : Int) = true := by simp [Dv.hasB]; omega
  simp [Dv.read, hd, hh, hb, hl]
theorem write_of {D : Dv} {b : Blk} (k : Nat) (s : ByteArray) (hu : D.up = true) (hb : D.bs[k]? = some b) (hs : s.size ≤ 512) : D.write (k : Int) s = (0, { D.op with bs := D.bs.set k (b.write D.writes s), writes := D.writes + 1 }) := by
  have hk := (List.getElem?_eq_some_iff.1 hb).1
  have hh : D.hasB (k : Int) = true := by simp [Dv.hasB]; omega
  have h1 : ¬ 512 < s.size := by omega
  simp [Dv.write, hu, hh, hb, h1]
theorem contents_nil {b : Blk} (h : b.pending = []) : b.contents = b.durable := by simp [Blk.contents, h]
theorem contents_snoc {b : Blk} {l : List Wr} {p : Wr} (h : b.pending = l ++ [p]) : b.contents = p.data := by simp [Blk.contents, h]

/-- A slice of strings that can be read: ss. -/
def Strs (w : World) (v : Value) (ss : List ByteArray) : Prop :=
  ∃ a cap, v = .slice a ss.length cap ∧ ss.length ≤ maxLen ∧ (ss.length = 0 ∨ ∃ g off, a = some ⟨g, off, none⟩ ∧ g < w.heap.size ∧ ∀ j, j < ss.length → w.cell? ⟨g, off + j, none⟩ = some (.string (ss.getD j ByteArray.empty))) ∧ ∀ s ∈ ss, s.size ≤ maxLen
theorem Strs.below {w x : World} {v : Value} {ss : List ByteArray} (h : Strs w v ss) (hb : Below w.heap.size w x) : Strs x v ss := by
  obtain ⟨a, cap, hv, hm, h, hs⟩ := h
  refine ⟨a, cap, hv, hm, h.imp id ?_, hs⟩
  rintro ⟨g, off, ha, hg, hc⟩
  exact ⟨g, off, ha, Nat.lt_of_lt_of_le hg hb.size, fun j hj => (hb.cell (p := ⟨g, off + j, none⟩) hg).trans (hc j hj)⟩

theorem und_fate : Tryd.prog.underlying 104 = some (.int .i64) := by kernel_rfl
theorem und_fates' : Tryd.prog.underlying 28 = some (.slice 104) := by kernel_rfl
section
variable {H : Type} {enc : TypeId × Value → H} {W : World} {base b0 : Nat} {spare : Nat → Bool} {held : Bool} {v : Value} {d : DataW H} {p : List MemPlace}
theorem fts_of (hv : Value.okWide Tryd.prog W .any b0 28 v) (h : DataW.Trod enc Tryd.prog W base spare held 28 v d p) : ∃ zs, Fts W v zs := by
  obtain ⟨a, len, cap, rfl⟩ := okWide_slice und_fates' hv
  obtain ⟨fuel, hf⟩ := h
  rcases open_ints und_fates' und_fate (by kernel_rfl) hf with ⟨hcs, _⟩ | ⟨x, l, c, zs, hcs, _, hl, hm, hz, _, hcell, hwz⟩
  · simp [Value.cells] at hcs
    obtain ⟨rfl, rfl, rfl⟩ := hcs
    exact ⟨[], Fts.nil W⟩
  · simp [Value.cells] at hcs
    obtain ⟨rfl, rfl, rfl⟩ := hcs
    have hlz : len ≤ zs.length := by rw [hz]; split <;> omega
    refine ⟨zs.take len, some x, cap, by rw [List.length_take, Nat.min_eq_left hlz], by rw [List.length_take]; omega, ?_⟩
    by_cases h0 : len = 0
    · exact .inl (by rw [List.length_take]; omega)
    · obtain ⟨b, off, spot⟩ := x
      have hc0 := hcell 0 (by omega)
      have hspot : spot = none := by simpa [Addr.add] using World.cell?_spot hc0
      subst hspot
      have hadd : ∀ j : Nat, (Addr.add ⟨b, off, none⟩ j : Addr) = ⟨b, off + j, none⟩ := fun j => by simp [Addr.add]
      refine .inr ⟨b, off, rfl, ?_, fun j hj => ?_⟩
      · rw [hadd] at hc0
        exact World.block_lt_of_cell? W _ hc0
      · have hj' : j < len := by rw [List.length_take] at hj; omega
        have := hcell j (by omega)
        rw [hadd] at this
        rw [this]
        simp [List.getD_eq_getElem?_getD, hj']
theorem und_str : Tryd.prog.underlying 9 = some .string := by kernel_rfl
theorem und_strs : Tryd.prog.underlying 63 = some (.slice 9) := by kernel_rfl
theorem strs_of (hv : Value.okWide Tryd.prog W .any b0 63 v) (h : DataW.Trod enc Tryd.prog W base spare held 63 v d p) : ∃ ss, Strs W v ss := by
  obtain ⟨a, len, cap, rfl⟩ := okWide_slice und_strs hv
  obtain ⟨fuel, hf⟩ := h
  rcases open_strings und_strs und_str (by kernel_rfl) hf with ⟨hcs, _⟩ | ⟨x, l, c, ss, hcs, _, hl, hm, hz, _, hcell, hws⟩
  · simp [Value.cells] at hcs
    obtain ⟨rfl, rfl, rfl⟩ := hcs
    exact ⟨[], _, _, rfl, Nat.zero_le _, .inl rfl, fun s hs => by cases hs⟩
  · simp [Value.cells] at hcs
    obtain ⟨rfl, rfl, rfl⟩ := hcs
    have hlz : len ≤ ss.length := by rw [hz]; split <;> omega
    refine ⟨ss.take len, some x, cap, by rw [List.length_take, Nat.min_eq_left hlz], by rw [List.length_take]; omega, ?_, fun s hs => hws s (List.mem_of_mem_take hs)⟩
    by_cases h0 : len = 0
    · exact .inl (by rw [List.length_take]; omega)
    · obtain ⟨b, off, spot⟩ := x
      have hc0 := hcell 0 (by omega)
      have hspot : spot = none := by simpa [Addr.add] using World.cell?_spot hc0
      subst hspot
      have hadd : ∀ j : Nat, (Addr.add ⟨b, off, none⟩ j : Addr) = ⟨b, off + j, none⟩ := fun j => by simp [Addr.add]
      refine .inr ⟨b, off, rfl, ?_, fun j hj => ?_⟩
      · rw [hadd] at hc0
        exact World.block_lt_of_cell? W _ hc0
      · have hj' : j < len := by rw [List.length_take] at hj; omega
        have := hcell j (by omega)
        rw [hadd] at this
        rw [this]
        simp [List.getD_eq_getElem?_getD, hj']
end
end Go.Proofs.YtiknfifiglooeaaDoor
