/- Package pith's encoders: extend, bigEndian; what they append as plain lists of bytes. -/
import Derived.Test.YtbdbmoinoehneaaDoorPithRm
import Derived.Lib.AppendStr
namespace Go.Proofs.YtbdbmoinoehneaaDoor
open Go.RowKit
set_option linter.unusedVariables false
set_option maxRecDepth 100000

/-- A list of bytes as cells. -/
def cellsOf (l : List UInt8) : List Value := l.map fun c => Value.int .u8 c.toNat
theorem cellsOf_length (l : List UInt8) : (cellsOf l).length = l.length := by simp [cellsOf]
theorem cellsOf_append (l m : List UInt8) : cellsOf (l ++ m) = cellsOf l ++ cellsOf m := by simp [cellsOf]
theorem cellsOf_nil : cellsOf [] = [] := rfl
theorem cellsOf_one (l : List UInt8) : ∀ v ∈ cellsOf l, v.oneCell' = true := by
  intro v hv
  simp only [cellsOf, List.mem_map] at hv
  obtain ⟨b, _, rfl⟩ := hv
  rfl
theorem cellsOf_str (s : ByteArray) : Lib.strCells s = cellsOf s.data.toList := rfl
/-- The slice value v holds the bytes l, in a row of the call's own from block B on (or nil). -/
def Bs (w : World) (B : Nat) (v : Value) (l : List UInt8) : Prop := w.ownsRow B 5 1 v l.length (cellsOf l)
theorem Bs.nil (w : World) (B : Nat) : Bs w B (.slice none 0 0) [] := World.ownsRow_nil _ _ _ _
theorem Bs.mono {w : World} {B C : Nat} {v : Value} {l : List UInt8} (h : Bs w B v l) (hc : C ≤ B) : Bs w C v l := by
  obtain ⟨h1, h2⟩ := h
  refine ⟨h1, ?_⟩
  rcases h2 with h2 | ⟨g, cap, cur, hv, hg, r⟩
  · exact .inl h2
  · exact .inr ⟨g, cap, cur, hv, by omega, r⟩
theorem Bs.below {w w' : World} {B : Nat} {v : Value} {l : List UInt8} (h : Bs w B v l) (k : Below w.heap.size w w') : Bs w' B v l := by
  obtain ⟨h1, h2⟩ := h
  refine ⟨h1, ?_⟩
  rcases h2 with h2 | ⟨g, cap, cur, hv, hg, hh, r⟩
  · exact .inl h2
  · exact .inr ⟨g, cap, cur, hv, hg, (k.block g (lt_of_block hh)).trans hh, r⟩
theorem Bs.shape {w : World} {B : Nat} {v : Value} {l : List UInt8} (h : Bs w B v l) : ∃ a c, v = .slice a l.length c ∧ l.length ≤ c := by
  obtain ⟨h1, h2⟩ := h
  rcases h2 with ⟨h2, h3⟩ | ⟨g, cap, cur, hv, hg, hh, hc, r⟩
  · exact ⟨none, 0, by rw [h2, h3], by omega⟩
  · exact ⟨_, cap, hv, hc⟩

/-- The slice value v reads as the bytes l (nil, or any row). -/
def Src (w : World) (v : Value) (l : List UInt8) : Prop :=
  ∃ p cap, v = .slice p l.length cap ∧ ((p = none ∧ l = [] ∧ cap = 0) ∨ ∃ a, p = some a ∧ ∀ j x, (cellsOf l)[j]? = some x → w.cell? (Addr.add a j) = some x)
theorem Src.nil (w : World) : Src w (.slice none 0 0) [] := ⟨none, 0, rfl, .inl ⟨rfl, rfl, rfl⟩⟩
theorem Src.below {w w' : World} {v : Value} {l : List UInt8} (h : Src w v l) (k : Below w.heap.size w w') : Src w' v l := by
  obtain ⟨p, cap, hv, h⟩ := h
  refine ⟨p, cap, hv, ?_⟩
  rcases h with h | ⟨a, ha, hc⟩
  · exact .inl h
  · refine .inr ⟨a, ha, fun j x hx => ?_⟩
    have h1 := hc j x hx
    have h2 := World.block_lt_of_cell? w _ h1
    rw [k.cell h2]
    exact h1
theorem Bs.src {w : World} {B : Nat} {v : Value} {l : List UInt8} (h : Bs w B v l) : Src w v l := by
  obtain ⟨h1, h2⟩ := h
  rcases h2 with ⟨rfl, h3⟩ | ⟨g, cap, cur, rfl, hg, hh, hc1, hc2, hc3, hc4⟩
  · obtain rfl : l = [] := List.eq_nil_of_length_eq_zero h3
    exact Src.nil w
  · refine ⟨_, cap, rfl, .inr ⟨_, rfl, fun j x hx => ?_⟩⟩
    have hjl : j < l.length := by
      have := (List.getElem?_eq_some_iff.1 hx).1
      rwa [cellsOf_length] at this
    rw [← hc4] at hx
    rw [List.getElem?_take] at hx
    simp only [Nat.mul_one, hjl, if_true] at hx
    rw [show (Addr.add ⟨g, 0, none⟩ j : Addr) = ⟨g, j, none⟩ by simp [Addr.add]; omega]
    simp only [World.cell?, hh]
    simpa using hx

set_option maxHeartbeats 1000000 in
theorem extend_any (v : Value) (l : List UInt8) (more : Nat) (w : World) (h : Src w v l) (hl : l.length + more ≤ 140737488355328) :
    Calls Tryd.prog 78 #[v, .int .i64 more] w fun e w' => ∃ v', e = .returned v' ∧ Bs w' w.heap.size v' l ∧ Below w.heap.size w w' := by
  obtain ⟨i0, hi, hz0, hz1, hz2⟩ := info_parts info_u8
  have hinfo : (Tryd.prog.info? 5).map (·.size) = some 1 := by rw [hi]; simp [hz1]
  obtain ⟨n, hn⟩ : ∃ n, n = l.length := ⟨_, rfl⟩
  obtain ⟨M, hM⟩ : ∃ M, M = madeCells (Value.int .u8 0).cells (((n + more : Nat) : Int).toNat * i0.size) := ⟨_, rfl⟩
  have hnm : ((n : Int) + (more : Int)).toNat = n + more := by omega
  have hMs : M.size = n + more := by rw [hM, size_madeCells, hz1]; simp [hnm]
  have hmk : ∀ W : World, (Instr.makeSlice 58 (.int .i64 (n : Int)) (.int .i64 ((n : Int) + (more : Int)))).run Tryd.prog W = .ok (.slice (some ⟨W.heap.size, 0, none⟩) n (n + more)) (W.alloc (.cells M 5)) := fun W => by
    have h := run_make (P := Tryd.prog) W 58 5 i0 (.int .u8 0) und_bytes hi hz0 .i64 .i64 (n : Int) ((n : Int) + (more : Int)) (by omega) (by omega) (by rw [hz2]; omega) (by omega)
    rw [show (n : Int) + (more : Int) = ((n + more : Nat) : Int) by omega, ← hM] at h
    rw [show (n : Int) + (more : Int) = ((n + more : Nat) : Int) by omega]
    simpa [hnm] using h
  clear hM hnm
  obtain ⟨p, cap, rfl, h2⟩ := h
  have hfin : ∀ (Y : Array Value), Y.size = n + more → Y.toList.take n = cellsOf l → Bs ((w.alloc (.cells M 5)).setRow w.heap.size Y) w.heap.size (.slice (some ⟨w.heap.size, 0, none⟩) n (n + more)) l := by
    intro Y hY hYl
    refine ⟨by rw [cellsOf_length, Nat.mul_one], .inr ⟨w.heap.size, n + more, Y, by rw [hn], Nat.le_refl _, setRow_heap _ _ M _ 5 (0, 0) (heap_alloc_new w _), by omega, by unfold maxLen; omega, by omega, ?_⟩⟩
    rw [Nat.mul_one, ← hn, hYl]
  have hbel : ∀ Y : Array Value, Below w.heap.size w ((w.alloc (.cells M 5)).setRow w.heap.size Y) := fun Y =>
    ((Below.refl _ w).alloc (Nat.le_refl _) _).trans ⟨rfl, rfl, rfl, by simp, fun k hk => setRow_other _ _ _ _ (by omega)⟩
  rcases h2 with ⟨rfl, rfl, rfl⟩ | ⟨a, rfl, hsrc⟩
  · have hcp := run_copy_nil (P := Tryd.prog) (w.alloc (.cells M 5)) 58 58 3 5 ⟨w.heap.size, 0, none⟩ 0 (0 + more) und_bytes (by rw [hi]; rfl)
    have hn0 : n = 0 := hn
    subst hn0
    have hX : Bs (w.alloc (.cells M 5)) w.heap.size (.slice (some ⟨w.heap.size, 0, none⟩) 0 (0 + more)) [] :=
      ⟨rfl, .inr ⟨w.heap.size, 0 + more, M, rfl, Nat.le_refl _, heap_alloc_new w _, by simp, by unfold maxLen; simp at hl; omega, by omega, by simp [cellsOf]⟩⟩
    have HX := Lib.hid hX
    clear hX hfin hbel hn
    have hmk0 : ∀ W : World, (Instr.makeSlice 58 (.int .i64 0) (.int .i64 (more : Int))).run Tryd.prog W = .ok (.slice (some ⟨W.heap.size, 0, none⟩) 0 more) (W.alloc (.cells M 5)) := fun W => by simpa using hmk W
    simp only [Nat.zero_add] at hcp
    clear hmk
    go_enter Tryd.func78, Tryd.ntmps78
    go_wp2
    go_ret
    exact ⟨_, rfl, by simpa using HX.out, (Below.refl _ w).alloc (Nat.le_refl _) _⟩
  · have hcp := run_copy_row (P := Tryd.prog) (w.alloc (.cells M 5)) 58 58 3 5 w.heap.size 0 n (n + more) a n cap M 5 (cellsOf l) und_bytes hinfo (heap_alloc_new w _) (by rw [cellsOf_length, ← hn]; exact (Nat.min_self n).symm)
      (by
        intro j x hx
        have h1 := hsrc j x hx
        rw [← h1]
        exact ((Below.refl w.heap.size w).alloc (Nat.le_refl _) _).cell (World.block_lt_of_cell? w _ h1))
      (by rw [cellsOf_length]; omega) (cellsOf_one l)
    obtain ⟨Y, hY⟩ : ∃ Y, Y = (M.toList.take 0 ++ cellsOf l ++ M.toList.drop (0 + (cellsOf l).length)).toArray := ⟨_, rfl⟩
    rw [← hY, cellsOf_length, ← hn] at hcp
    have hYl : Y.toList.take n = cellsOf l := by
      rw [hY, List.toList_toArray, List.take_zero, List.nil_append, List.take_left' (by rw [cellsOf_length, hn])]
    have hYs : Y.size = n + more := by rw [hY]; simp [cellsOf_length]; omega
    have HX := Lib.hid (hfin Y hYs hYl)
    have HB := Lib.hid (hbel Y)
    have hnb : n + more ≤ 140737488355328 := by omega
    rw [← hn]
    clear hY hfin hbel hn hYl hsrc hMs hYs
    go_enter Tryd.func78, Tryd.ntmps78
    go_wp2
    go_ret
    exact ⟨_, rfl, HX.out, HB.out⟩
end Go.Proofs.YtbdbmoinoehneaaDoor
