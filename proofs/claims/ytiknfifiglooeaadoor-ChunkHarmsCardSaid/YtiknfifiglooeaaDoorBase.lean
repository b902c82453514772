/- What the texts of several packages share: byte slices and strings. No conditions beyond those in each statement. -/
import Derived.Test.YtiknfifiglooeaaDoorBase1
import Derived.Lib.Strings
import Derived.Deep.QuietTactic
import Derived.BigQuiet
import Derived.Lib.BufferRead
import Derived.Laws.IdiomStrings
namespace Go.Proofs.YtiknfifiglooeaaDoor
open Go.RowKit
set_option linter.unusedVariables false
set_option maxRecDepth 100000

theorem und_u8 : Tryd.prog.underlying 5 = some (.int .u8) := by kernel_rfl
/-- A list of bytes as cells. -/
def cellsOf (l : List UInt8) : List Value := l.map fun c => Value.int .u8 c.toNat
theorem cellsOf_length (l : List UInt8) : (cellsOf l).length = l.length := by simp [cellsOf]
theorem cellsOf_append (l m : List UInt8) : cellsOf (l ++ m) = cellsOf l ++ cellsOf m := by simp [cellsOf]
theorem cellsOf_nil : cellsOf [] = [] := rfl
theorem cellsOf_one (l : List UInt8) : ∀ v ∈ cellsOf l, v.oneCell' = true := by
  intro v hv
  simp only [cellsOf, List.mem_map] at hv
  obtain ⟨b, _, rfl⟩ := hv
  rfl
/-- The slice value v reads as the bytes l (nil, or any row). -/
def Src (w : World) (v : Value) (l : List UInt8) : Prop :=
  ∃ p cap, v = .slice p l.length cap ∧ ((p = none ∧ l = [] ∧ cap = 0) ∨ ∃ a, p = some a ∧ ∀ j x, (cellsOf l)[j]? = some x → w.cell? (Addr.add a j) = some x)
theorem Src.nil (w : World) : Src w (.slice none 0 0) [] := ⟨none, 0, rfl, .inl ⟨rfl, rfl, rfl⟩⟩
theorem Src.below {w w' : World} {v : Value} {l : List UInt8} (h : Src w v l) (k : Below w.heap.size w w') : Src w' v l := by
  obtain ⟨p, cap, hv, h⟩ := h
  refine ⟨p, cap, hv, ?_⟩
  rcases h with h | ⟨a, ha, hc⟩
  · exact .inl h
  · refine .inr ⟨a, ha, fun j x hx => ?_⟩
    have h1 := hc j x hx
    have h2 := World.block_lt_of_cell? w _ h1
    rw [k.cell h2]
    exact h1
theorem run_str {w : World} {v : Value} {l : List UInt8} (h : Src w v l) : (convert 100 9 v).run Tryd.prog w = .ok (.string ⟨l.toArray⟩) w := by
  obtain ⟨p, cap, rfl, ⟨rfl, rfl, rfl⟩ | ⟨a, rfl, hc⟩⟩ := h
  · exact Lib.run_convert_nil_bytes w 100 9 5 0 und_bytes und_u8 und_string
  · exact run_convert_bytes_back w 100 9 5 a cap l und_bytes und_u8 und_string (fun j hj => hc j _ (by simp [cellsOf, hj]))

theorem size_mk (l : List UInt8) : (ByteArray.mk l.toArray).size = l.length := by simp [ByteArray.size]
theorem data_mk (l : List UInt8) : (ByteArray.mk l.toArray).data.toList = l := by simp
theorem mk_data (s : ByteArray) : s = ⟨s.data.toList.toArray⟩ := by simp
theorem extract_mk (l : List UInt8) (a c : Nat) : (ByteArray.mk l.toArray).extract a c = ⟨((l.drop a).take (c - a)).toArray⟩ := by
  rw [mk_data ((ByteArray.mk l.toArray).extract a c), Lib.extract_data]
theorem extract_head (l : List UInt8) (n : Nat) : (ByteArray.mk l.toArray).extract 0 n = ⟨(l.take n).toArray⟩ := by rw [extract_mk]; simp
theorem extract_rest (l : List UInt8) (n : Nat) : (ByteArray.mk l.toArray).extract n (ByteArray.mk l.toArray).size = ⟨(l.drop n).toArray⟩ := by
  rw [extract_mk, size_mk, List.take_of_length_le (by simp)]


theorem src_new (w : World) (l : List UInt8) (c : Nat) : Src (w.alloc (.cells (cellsOf l).toArray 5)) (.slice (some ⟨w.heap.size, 0, none⟩) l.length c) l := by
  refine ⟨_, c, rfl, .inr ⟨_, rfl, fun j x hx => ?_⟩⟩
  rw [show (Addr.add ⟨w.heap.size, 0, none⟩ j : Addr) = ⟨w.heap.size, j, none⟩ by simp [Addr.add]; omega]
  have h := heap_alloc_new w (.cells (cellsOf l).toArray 5)
  simp only [World.cell?, h]
  simpa using hx
end Go.Proofs.YtiknfifiglooeaaDoor
