/- General facts: rows of k cells an element, arguments that came in. No conditions beyond those in each statement. -/
import Derived.Test.YtfijidaohlnphaaChecked
import Derived.Lib.Hide
import Derived.Handy
import Derived.Test.YtfijidaohlnphaaInvar6
import Derived.Test.YtfijidaohlnphaaInvar5
import Derived.ProofKit
import Derived.Below
import Derived.Deep.QuietTactic
import Derived.Deep.RegionHeld3
import Derived.Deep.DeepCutAuto
import Derived.Laws.AppendOwn
import Derived.Lib.SliceRun
import Derived.Outline
import Derived.Laws.IdiomStrings
import Derived.Lib.BufferRead
import Derived.OpenShut
import Derived.ShutString
import Derived.ChangeOld
import Derived.Lay
import Derived.Deep.DeepHandedRow
import Derived.Deep.Slices
import Derived.Deep.Fields
import Derived.SliceStrings
import Derived.DataShut
import Derived.Lib.AppendZeros
namespace Go.Proofs.Ytfijidaohlnphaa
open Go.RowKit
set_option linter.unusedVariables false
set_option linter.unusedSimpArgs false
set_option maxRecDepth 100000

theorem take_snoc_getD {α : Type} (zs : List α) (d : α) (k : Nat) (h : k < zs.length) : zs.take (k + 1) = zs.take k ++ [zs.getD k d] := by
  rw [List.take_succ_eq_append_getElem h, show zs.getD k d = zs[k] by simp [h]]
theorem block_setCell {w : World} {b i : Nat} {vs : Array Value} {u : Value} {t : TypeId} {m : Nat × Nat} (h : w.heap[b]? = some (.cells vs t m)) :
    (w.setCell ⟨b, i, none⟩ u).heap[b]? = some (.cells (vs.setIfInBounds i u) t m) := by
  have hlt := lt_of_block h
  have h' : w.heap[b] = .cells vs t m := by simpa [Array.getElem?_eq_getElem hlt] using h
  show (w.heap.modify b _)[b]? = _
  rw [Array.getElem?_eq_getElem (by simpa using hlt), Array.getElem_modify_self, h']
  rfl
theorem only_refl (a : World) (row : Option Nat) : a.grownBy a row := ⟨rfl, rfl, rfl, Nat.le_refl _, fun _ _ _ => rfl⟩
theorem only_drew {a w : World} {row : Option Nat} (h : a.grownBy w row) : a.grownBy w.drew row := ⟨h.os, h.tape, h.output, h.size, h.block⟩
theorem only_alloc {a w : World} {row : Option Nat} (h : a.grownBy w row) (o : Obj) : a.grownBy (w.alloc o) row :=
  ⟨h.os, h.tape, h.output, Nat.le_trans h.size (by simp), fun i hi hne => (Below.heap_alloc w o i (Nat.lt_of_lt_of_le hi h.size)).trans (h.block i hi hne)⟩
section
variable {α : Type} (one : α → List Value) (k : Nat)
def cellsK (l : List α) : List Value := l.flatMap one
variable {one k}
theorem cellsK_nil : cellsK one [] = [] := rfl
theorem cellsK_cons (x : α) (l : List α) : cellsK one (x :: l) = one x ++ cellsK one l := rfl
theorem cellsK_append (l m : List α) : cellsK one (l ++ m) = cellsK one l ++ cellsK one m := by unfold cellsK; rw [List.flatMap_append]
theorem cellsK_len (hk : ∀ x, (one x).length = k) (l : List α) : (cellsK one l).length = l.length * k := by
  induction l with
  | nil => simp [cellsK]
  | cons x l ih => rw [cellsK_cons, List.length_append, ih, hk, List.length_cons, Nat.succ_mul, Nat.add_comm]
theorem cellsK_at (hk : ∀ x, (one x).length = k) : ∀ (l : List α) (j i : Nat) (x : α), l[j]? = some x → i < k → (cellsK one l)[j * k + i]? = (one x)[i]?
  | [], j, i, x, h, _ => by simp at h
  | y :: l, 0, i, x, h, hi => by
    obtain rfl : y = x := by simpa using h
    rw [cellsK_cons, Nat.zero_mul, Nat.zero_add, List.getElem?_append_left (by rw [hk]; exact hi)]
  | y :: l, j + 1, i, x, h, hi => by
    have := cellsK_at hk l j i x (by simpa using h) hi
    rw [cellsK_cons, List.getElem?_append_right (by rw [hk, Nat.succ_mul]; omega), hk, Nat.succ_mul, ← this]
    congr 1; omega
theorem cellsK_one (h1 : ∀ x, ∀ v ∈ one x, v.oneCell' = true) (l : List α) (v : Value) (h : v ∈ cellsK one l) : v.oneCell' = true := by
  obtain ⟨x, _, hx⟩ := List.mem_flatMap.1 h
  exact h1 x v hx
end
def InR (z : Int) : Prop := -9223372036854775808 ≤ z ∧ z ≤ 9223372036854775807
theorem getD_mem {α : Type} {L : List α} {d : α} {k : Nat} (h : k < L.length) : L.getD k d ∈ L := by
  rw [List.getD_eq_getElem?_getD, List.getElem?_eq_getElem h]; exact List.getElem_mem h
theorem cells_new {w : World} {vs : Array Value} {t : TypeId} {j : Nat} {u : Value} (h : vs[j]? = some u) : (w.alloc (.cells vs t)).cell? ⟨w.heap.size, 0 + j, none⟩ = some u := by
  have h1 := heap_alloc_new w (.cells vs t)
  generalize w.alloc (.cells vs t) = W at h1
  simp [World.cell?, h1, h]
theorem kept_set {x : World} {b c i : Nat} {u : Value} {o : Obj} (h : x.heap[c]? = some o) (hne : c ≠ b) : (x.setCell ⟨b, i, none⟩ u).heap[c]? = some o := (Below.heap_setCell x ⟨b, i, none⟩ u c hne).trans h
theorem setB_up {b : Nat → Bool} {i j : Nat} (h : b j = true) : setB b i j = true := by unfold setB; split; rfl; exact h
theorem size_arr (l : List UInt8) : (⟨l.toArray⟩ : ByteArray).size = l.length := by simp [ByteArray.size]
section
variable {P : Program} {Q : Exit → Act → World → Prop} {l : List Oper}
theorem gstep_row1 {i : Nat} {o : Oper} {a : Act} {w : World} {K : Act → World → Prop} (ho : l[i]? = some o) (hw : WantedIs l a o true) (t : TypeId) (s1 : Operand) (hop : o.op = .buildSlice t 1 #[(0, s1)]) (v1 : Value) (he1 : a.eval s1 = v1) (v' : Value) (w' : World)
    (hr : (Instr.buildSlice t 1 #[(0, v1)]).run P w = .ok v' w') (h : K (a.put o.dst v') w') : Step P l Q i K a w :=
  gstep_value ho hw v' w' (by simp only [execOp, hop, List.map_toArray, List.map_cons, List.map_nil, he1, Sem.run_bind, Sem.run_pure, hr, Result.andThen_ok]) h
end
theorem arr_mk (s : ByteArray) : (⟨s.data.toList.toArray⟩ : ByteArray) = s := by simp
theorem str_eq (x y : ByteArray) (B : Bool) (hB : B = true ↔ x = y) : (x.toList == y.toList) = B := by
  rw [Bool.eq_iff_iff, hB, beq_iff_eq, ByteArray.toList_eq, ByteArray.toList_eq]
  exact ⟨fun e => ByteArray.ext (Array.toList_inj.1 e), fun e => by rw [e]⟩
theorem str_ne {x y : ByteArray} (h : ¬ x = y) : (x.toList == y.toList) = false := str_eq x y false ⟨fun e => absurd e (by simp), fun e => absurd e h⟩
theorem drewN_below (w : World) (n : Nat) : Below w.heap.size w (w.drewN n) := ⟨rfl, rfl, rfl, Nat.le_refl _, fun _ _ => rfl⟩
noncomputable def eqB {α : Type} (x y : α) : Bool := @decide (x = y) (Classical.propDecidable _)
theorem eqB_true {α : Type} {x y : α} : eqB x y = true ↔ x = y := by unfold eqB; exact @decide_eq_true_iff _ (Classical.propDecidable _)
theorem eqB_self {α : Type} (x : α) : eqB x x = true := eqB_true.2 rfl
theorem eqB_ne {α : Type} {x y : α} (h : ¬ x = y) : eqB x y = false := by cases e : eqB x y; rfl; exact absurd (eqB_true.1 e) h
theorem take_eq {α : Type} {L M : List α} {d : α} {k : Nat} (h1 : k < L.length) (h2 : k < M.length) (h : L.take k = M.take k) (he : L.getD k d = M.getD k d) : L.take (k + 1) = M.take (k + 1) := by
  rw [take_snoc_getD L d k h1, take_snoc_getD M d k h2, h, he]
theorem all_take {α : Type} {L : List α} {f : α → Bool} {d : α} {k : Nat} (h : k < L.length) (h1 : (L.take k).all f = true) (h2 : f (L.getD k d) = true) : (L.take (k + 1)).all f = true := by
  rw [take_snoc_getD L d k h, List.all_append, h1]; simp only [List.all_cons, List.all_nil, h2]; rfl
theorem all_not {α : Type} {L : List α} {f : α → Bool} {d : α} {k : Nat} (h : k < L.length) (h2 : f (L.getD k d) = false) : L.all f = false :=
  List.all_eq_false.2 ⟨_, getD_mem h, by rw [h2]; exact Bool.false_ne_true⟩
open Go.ChangeShapes Go.WideShapes Go.ChangeAt Go.Deep
open Go.ChangeMaps (open_string shut_string)
section
variable {H : Type} {enc : TypeId × Value → H} {P : Program} {w : World} {base : Nat} {spare : Nat → Bool} {held : Bool}
theorem open_slice_fields {t e : TypeId} {fs : Array Field} {fuel : Nat} {cs : List Value} {x : DataW H × List MemPlace} (ht : P.underlying t = some (.slice e)) (he : P.underlying e = some (.struct fs))
    (hone : oneCellFields P fs = true) (hC : P.cellsOf e = fs.size) (h : DataW.trod enc P w base spare held fuel t cs = some x) :
    (cs = [.slice none 0 0] ∧ x = (.nil, [])) ∨
    ∃ (a : Addr) (len cap m : Nat) (D : Nat → DataW H), cs = [.slice (some a) len cap] ∧ len ≤ cap ∧ cap ≤ maxLen ∧ m = (if spare a.block then cap else len) ∧
      ∀ i, i < m → ∃ (ys : List (DataW H × List MemPlace)) (n : Nat), ys.length = fs.size ∧
        ∀ (j : Nat) (f : Field), fs[j]? = some f → ∃ (v : Value) (y : DataW H × List MemPlace), w.cell? (a.add (i * fs.size + j)) = some v ∧ ys[j]? = some y ∧ DataW.trod enc P w base spare held n f.type [v] = some y := by
  rcases open_slice ht h with h0 | ⟨a, len, cap, m, n, D, Pl, hcs, hb, hl, hm, hmm, hx, hi⟩
  · exact .inl h0
  · refine .inr ⟨a, len, cap, m, D, hcs, hl, hm, hmm, fun i him => ?_⟩
    obtain ⟨cs', hc, ht'⟩ := hi i him
    rw [hC] at hc
    obtain ⟨ys, n', hn', hy, hlen, hyl, hf⟩ := DataW.trod_struct he ht'
    obtain ⟨_, hcl, hat⟩ := World.cells?_some hc
    refine ⟨ys, n', hyl, fun j f hj => ?_⟩
    obtain ⟨ho, hk⟩ := hone_of hone j f hj
    have hjl : j < fs.size := (Array.getElem?_eq_some_iff.1 hj).1
    have hcell := hat j hjl
    have hv : cs'[j]? = some (cs'[j]'(by omega)) := List.getElem?_eq_getElem (by omega)
    have h1 := hf j f hj
    rw [ho, hk] at h1
    have hone' : (cs'.drop j).take 1 = [cs'[j]'(by omega)] := by
      rw [List.drop_eq_getElem_cons (by omega)]
      rfl
    rw [hone'] at h1
    have hys : ys[j]? = some (ys[j]'(by omega)) := List.getElem?_eq_getElem (by omega)
    refine ⟨_, _, ?_, hys, h1.trans hys⟩
    rw [← Go.Deep.add_add, hcell, hv]
theorem open_aggn {r : Reach} {b0 : Nat} {t : TypeId} {fs : Array Field} {v : Value} {d : DataW H} {p : List MemPlace} (hs : P.underlying t = some (.struct fs)) (hone : oneCellFields P fs = true) (hC : P.cellsOf t = fs.size)
    (hv : Value.okWide P w r b0 t v) (h : DataW.Trod enc P w base spare held t v d p) :
    ∃ (cs : Array Value) (n : Nat), v = .agg cs ∧ cs.size = fs.size ∧ ∀ (j : Nat) (f : Field), fs[j]? = some f → ∃ (u : Value) (y : DataW H × List MemPlace), cs[j]? = some u ∧ DataW.trod enc P w base spare held n f.type [u] = some y := by
  obtain ⟨cs, rfl, hsz⟩ := okWide_struct hs hv
  obtain ⟨fuel, hf⟩ := h
  obtain ⟨ys, n, _, _, _, hlen, hff⟩ := DataW.trod_struct hs hf
  refine ⟨cs, n, rfl, hsz.trans hC, fun j f hj => ?_⟩
  obtain ⟨ho, hk⟩ := hone_of hone j f hj
  have hjl : j < fs.size := (Array.getElem?_eq_some_iff.1 hj).1
  have hcl : j < cs.size := by rw [hsz, hC]; exact hjl
  have h1 := hff j f hj
  rw [ho, hk, show (Value.cells (.agg cs)) = cs by simp [Value.cells]] at h1
  have hone' : (cs.toList.drop j).take 1 = [cs[j]] := by
    rw [List.drop_eq_getElem_cons (by simpa using hcl)]
    simp
  rw [hone'] at h1
  have hys : ys[j]? = some (ys[j]'(by omega)) := List.getElem?_eq_getElem (by omega)
  exact ⟨cs[j], _, Array.getElem?_eq_getElem hcl, h1.trans hys⟩
end
theorem inR_of {z : Int} (h : (Lit.int .i64 z).wf = true) : InR z := by
  have := (Lit.wf_int_iff .i64 z).1 h
  rw [show IntKind.i64.min = -9223372036854775808 by decide, show IntKind.i64.max = 9223372036854775807 by decide] at this
  exact this
end Go.Proofs.Ytfijidaohlnphaa
