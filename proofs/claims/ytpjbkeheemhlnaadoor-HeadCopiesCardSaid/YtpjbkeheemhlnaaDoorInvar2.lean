/- More steps for a region that draws its order (Invar): a load, a field's address, a call of two arguments, an operation behind a guard; what a call waits for. -/
import Derived.Test.YtpjbkeheemhlnaaDoorInvar
import Derived.Test.YtpjbkeheemhlnaaDoorSlotArgs
namespace Go.Proofs.YtpjbkeheemhlnaaDoor
open Go Go.RowKit
set_option linter.unusedVariables false
set_option maxRecDepth 100000

section
variable {P : Program} {Q : Exit → Act → World → Prop} {l : List Oper}
theorem step_load {i : Nat} {o : Oper} {a : Act} {w : World} {K : Act → World → Prop} (ho : l[i]? = some o) (hg : o.guard = none) (t : TypeId) (s : Operand) (hop : o.op = .load t s) (v : Value) (he : a.eval s = v) (v' : Value)
    (hr : (Instr.loadAt t v).run P w = .ok v' w) (h : K (a.put o.dst v') w) : wpOp P l.toArray Q i K a w :=
  step_value ho hg v' w (by simp only [execOp, hop, he, Sem.run_bind, Sem.run_pure, hr, Result.andThen_ok]) h
theorem step_field {i : Nat} {o : Oper} {a : Act} {w : World} {K : Act → World → Prop} (ho : l[i]? = some o) (hg : o.guard = none) (t : TypeId) (s : Operand) (f : Nat) (hop : o.op = .fieldAddr t s f) (v : Value) (he : a.eval s = v) (v' : Value)
    (hr : (Instr.fieldAt t v f).run P w = .ok v' w) (h : K (a.put o.dst v') w) : wpOp P l.toArray Q i K a w :=
  step_value ho hg v' w (by simp only [execOp, hop, he, Sem.run_bind, Sem.run_pure, hr, Result.andThen_ok]) h
theorem step_call2 {i : Nat} {o : Oper} {a : Act} {w : World} {K : Act → World → Prop} (ho : l[i]? = some o) (hg : o.guard = none) (f : FuncId) (s1 s2 : Operand) (ts : Array TypeId) (hop : o.op = .call { callee := .value (.func f), args := #[s1, s2], argTypes := ts }) (v1 v2 : Value) (he1 : a.eval s1 = v1) (he2 : a.eval s2 = v2) (hf : (callFunc f #[v1, v2]).run P w = .ok (.enter f #[v1, v2]) w)
    (h : Calls P f #[v1, v2] w fun e w'' => ∃ v, e = .returned v ∧ K (a.put o.dst v) w'') : wpOp P l.toArray Q i K a w :=
  step_enter ho hg f #[v1, v2] w (by simp only [execOp, hop, resolve, invoke, Deferred.ofValue, show a.eval (.func f) = .func (.func f) #[] #[] from rfl, List.map_toArray, List.map_cons, List.map_nil, he1, he2, Sem.run_bind, Sem.run_pure, Result.andThen_ok]; simpa using hf) h
end

/-- One number, in a slice of its own. -/
def OneI (w : World) (v : Value) (z : Int) : Prop := ∃ b, v = .slice (some ⟨b, 0, none⟩) 1 1 ∧ w.cell? ⟨b, 0, none⟩ = some (.int .i64 z) ∧ b < w.heap.size
theorem OneI.below {w w' : World} {v : Value} {z : Int} (h : OneI w v z) (k : Below w.heap.size w w') : OneI w' v z := by
  obtain ⟨b, hv, hc, hb⟩ := h
  exact ⟨b, hv, (k.cell (p := ⟨b, 0, none⟩) hb).trans hc, Nat.lt_of_lt_of_le hb k.size⟩
theorem OneI.new (w : World) (z : Int) : OneI (w.alloc (.cells #[.int .i64 z] 3)) (.slice (some ⟨w.heap.size, 0, none⟩) 1 1) z :=
  ⟨_, rfl, by simp [World.cell?_alloc_at], by simp⟩
/-- One string, in a slice of its own. -/
def OneS (w : World) (v : Value) (s : ByteArray) : Prop := ∃ b, v = .slice (some ⟨b, 0, none⟩) 1 1 ∧ w.cell? ⟨b, 0, none⟩ = some (.string s) ∧ b < w.heap.size
theorem OneS.below {w w' : World} {v : Value} {s : ByteArray} (h : OneS w v s) (k : Below w.heap.size w w') : OneS w' v s := by
  obtain ⟨b, hv, hc, hb⟩ := h
  exact ⟨b, hv, (k.cell (p := ⟨b, 0, none⟩) hb).trans hc, Nat.lt_of_lt_of_le hb k.size⟩
theorem OneS.new (w : World) (s : ByteArray) : OneS (w.alloc (.cells #[.string s] 9)) (.slice (some ⟨w.heap.size, 0, none⟩) 1 1) s :=
  ⟨_, rfl, by simp [World.cell?_alloc_at], by simp⟩
theorem OneI.num {w : World} {u v : Value} {z : Int} {l : List UInt8} (h : OneI w v z) (hs : Src w u l) (hl : l.length ≤ 100000) (hz : -9223372036854775808 ≤ z ∧ z ≤ 9223372036854775807) :
    Calls Tryd.prog 24 #[u, v] w fun e w' => ∃ v', e = .returned v' ∧ Src w' v' (l ++ numE z) ∧ Below w.heap.size w w' := by
  obtain ⟨b, rfl, hc, hb⟩ := h
  refine (num_list u l b 0 1 [z] w hs hb (by simp; omega) ?_ ?_).mono ?_
  · intro j hj
    match j, hj with
    | 0, _ => exact hz
  · intro j hj
    match j, hj with
    | 0, _ => exact hc
  · rintro e w' ⟨v', he, ho, hb⟩
    exact ⟨v', he, by simpa [numsE] using ho.src, hb⟩
theorem OneS.text {w : World} {u v : Value} {s : ByteArray} {l : List UInt8} (h : OneS w v s) (hs : Src w u l) (hl : l.length ≤ 100000) (hz : s.size ≤ maxLen) :
    Calls Tryd.prog 100 #[u, v] w fun e w' => ∃ v', e = .returned v' ∧ Src w' v' (l ++ textE s.data.toList) ∧ Below w.heap.size w w' := by
  obtain ⟨b, rfl, hc, hb⟩ := h
  refine (text_list u l b 0 1 [s] w hs hb (by simp; omega) ?_ ?_).mono ?_
  · intro j hj
    match j, hj with
    | 0, _ => exact hz
  · intro j hj
    match j, hj with
    | 0, _ => exact hc
  · rintro e w' ⟨v', he, ho, hb⟩
    exact ⟨v', he, by simpa [textsE] using ho.src, hb⟩
theorem run_oneI (W : World) (z : Int) : (Instr.buildSlice 87 1 #[(0, .int .i64 z)]).run Tryd.prog W = .ok (.slice (some ⟨W.heap.size, 0, none⟩) 1 1) (W.alloc (.cells #[.int .i64 z] 3)) := by
  go_simp
theorem run_oneS (W : World) (s : ByteArray) : (Instr.buildSlice 164 1 #[(0, .string s)]).run Tryd.prog W = .ok (.slice (some ⟨W.heap.size, 0, none⟩) 1 1) (W.alloc (.cells #[.string s] 9)) := by
  go_simp
theorem run_recf0 (W : World) (b : Nat) : (Instr.fieldAt 38 (.pointer (some ⟨b, 0, none⟩)) 0).run Tryd.prog W = .ok (.pointer (some ⟨b, 0, none⟩)) W := by go_simp
theorem run_recf1 (W : World) (b : Nat) : (Instr.fieldAt 38 (.pointer (some ⟨b, 0, none⟩)) 1).run Tryd.prog W = .ok (.pointer (some ⟨b, 1, none⟩)) W := by go_simp
theorem run_recf2 (W : World) (b : Nat) : (Instr.fieldAt 38 (.pointer (some ⟨b, 0, none⟩)) 2).run Tryd.prog W = .ok (.pointer (some ⟨b, 2, none⟩)) W := by go_simp
theorem run_recf3 (W : World) (b : Nat) : (Instr.fieldAt 38 (.pointer (some ⟨b, 0, none⟩)) 3).run Tryd.prog W = .ok (.pointer (some ⟨b, 3, none⟩)) W := by go_simp
theorem run_loadI (W : World) (p : Addr) (z : Int) (h : W.cell? p = some (.int .i64 z)) : (Instr.loadAt 3 (.pointer (some p))).run Tryd.prog W = .ok (.int .i64 z) W := by go_simp
theorem run_loadS (W : World) (p : Addr) (s : ByteArray) (h : W.cell? p = some (.string s)) : (Instr.loadAt 9 (.pointer (some p))).run Tryd.prog W = .ok (.string s) W := by go_simp
theorem call1 (W : World) (f : FuncId) (v : Value) (h : ∀ W', (callFunc f #[v]).run Tryd.prog W' = .ok (.enter f #[v]) W') : (callFunc f #[v]).run Tryd.prog W = .ok (.enter f #[v]) W := h W
theorem call_num (W : World) (u v : Value) : (callFunc 24 #[u, v]).run Tryd.prog W = .ok (.enter 24 #[u, v]) W := by go_simp
theorem call_text (W : World) (u v : Value) : (callFunc 100 #[u, v]).run Tryd.prog W = .ok (.enter 100 #[u, v]) W := by go_simp
theorem call_seal (W : World) (u : Value) : (callFunc 101 #[u]).run Tryd.prog W = .ok (.enter 101 #[u]) W := by go_simp
end Go.Proofs.YtpjbkeheemhlnaaDoor
