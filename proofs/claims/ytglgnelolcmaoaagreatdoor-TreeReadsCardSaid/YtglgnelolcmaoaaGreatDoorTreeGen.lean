/- General facts on numbers and texts that are encoded and read; loads and stores of a whole node as single steps. No conditions beyond those in each statement. -/
import Derived.Test.YtglgnelolcmaoaaGreatDoorTreeGet
import Derived.Test.YtglgnelolcmaoaaGreatDoorPithGood
import Derived.Lib.SliceRun
import Derived.Lib.BufferRead
import Derived.Lib.AppendZeros
import Derived.Laws.IdiomStrings
namespace Go.Proofs.YtglgnelolcmaoaaGreatDoor
open Go.RowKit Go.Maps
set_option linter.unusedVariables false
set_option linter.unusedSimpArgs false
set_option maxRecDepth 100000

def InR (z : Int) : Prop := -9223372036854775808 ≤ z ∧ z ≤ 9223372036854775807
theorem getD_mem {α : Type} {L : List α} {d : α} {k : Nat} (h : k < L.length) : L.getD k d ∈ L := by
  rw [List.getD_eq_getElem?_getD, List.getElem?_eq_getElem h]; exact List.getElem_mem h
theorem cells_new {w : World} {vs : Array Value} {t : TypeId} {j : Nat} {u : Value} (h : vs[j]? = some u) : (w.alloc (.cells vs t)).cell? ⟨w.heap.size, 0 + j, none⟩ = some u := by
  have h1 := heap_alloc_new w (.cells vs t)
  generalize w.alloc (.cells vs t) = W at h1
  simp [World.cell?, h1, h]
theorem Bs.mk {w : World} {B : Nat} {v : Value} {l m : List UInt8} (h : Bs w B v l) (e : l = m) : Bs w B v m := e ▸ h
theorem Bs.cut {w : World} {B : Nat} {v : Value} {l : List UInt8} (h : Bs w B v l) (h0 : 0 < l.length) : ∃ g c, v = .slice (some ⟨g, 0, none⟩) l.length c ∧ ∀ j u, (cellsOf l)[j]? = some u → w.cell? (Addr.add ⟨g, 0, none⟩ j) = some u := by
  obtain ⟨p, cap, hv, h1⟩ := h.src
  rcases h1 with ⟨_, hl, _⟩ | ⟨a, ha, hc⟩
  · rw [hl] at h0; simp at h0
  · rcases h.2 with ⟨_, h2⟩ | ⟨g, c, cur, h2, _⟩
    · omega
    · rw [hv] at h2
      injection h2 with e1 e2 e3
      rw [ha] at e1
      obtain rfl : a = ⟨g, 0, none⟩ := Option.some.inj e1
      exact ⟨g, cap, by rw [hv, ha], hc⟩
theorem und_u8 : Tryz.prog.underlying 5 = some (.int .u8) := by kernel_rfl
theorem run_str {w : World} {v : Value} {l : List UInt8} (h : Src w v l) : (convert 53 9 v).run Tryz.prog w = .ok (.string ⟨l.toArray⟩) w := by
  obtain ⟨p, cap, rfl, ⟨rfl, rfl, rfl⟩ | ⟨a, rfl, hc⟩⟩ := h
  · exact Lib.run_convert_nil_bytes w 53 9 5 0 und_bytes und_u8 und_string
  · exact run_convert_bytes_back w 53 9 5 a cap l und_bytes und_u8 und_string (fun j hj => hc j _ (by simp [cellsOf, hj]))
theorem kept_set {x : World} {b c i : Nat} {u : Value} {o : Obj} (h : x.heap[c]? = some o) (hne : c ≠ b) : (x.setCell ⟨b, i, none⟩ u).heap[c]? = some o := (Below.heap_setCell x ⟨b, i, none⟩ u c hne).trans h
theorem Rs.set {x : World} {b c i : Nat} {u : Value} {st : RS} (h : Rs x c st) (hne : c ≠ b) : Rs (x.setCell ⟨b, i, none⟩ u) c st := by
  cases st with
  | none => exact kept_set h hne
  | some l => exact ⟨kept_set h.1 hne, h.2⟩
theorem numF_most (st : RS) (most : Int) (h0 : 0 ≤ most) : 0 ≤ (numF 6 most st).1 ∧ (numF 6 most st).1 ≤ most := by
  cases st with
  | none => exact ⟨Int.le_refl 0, h0⟩
  | some l =>
    by_cases hc : l.length < 6 ∨ most < (val (l.take 6) : Int)
    · simp only [numF, hc, if_true]; exact ⟨Int.le_refl 0, h0⟩
    · simp only [numF, hc, if_false]; omega
theorem textF_len (most : Nat) (st : RS) : (textF most st).1.length ≤ most := by
  cases st with
  | none => exact Nat.zero_le _
  | some l =>
    unfold textF
    by_cases hc : l.length < 2 ∨ (most : Int) < (val (l.take 2) : Int)
    · simp only [numF, hc, if_true]; simp [takeF]
    · simp only [numF, hc, if_false]
      have := takeF_len (val (l.take 2)) (some (l.drop 2))
      rw [Int.toNat_natCast]; omega
theorem size_arr (l : List UInt8) : (⟨l.toArray⟩ : ByteArray).size = l.length := by simp [ByteArray.size]
theorem numF_some {most : Int} {st : RS} {l' : List UInt8} (hm : most ≤ 281474976710655) (h : (numF 6 most st).2 = some l') : ∃ l, st = some l ∧ l = numE (numF 6 most st).1 ++ l' ∧ 0 ≤ (numF 6 most st).1 ∧ (numF 6 most st).1 ≤ most := by
  cases st with
  | none => cases h
  | some l =>
    refine ⟨l, rfl, ?_⟩
    by_cases hc : l.length < 6 ∨ most < (val (l.take 6) : Int)
    · simp only [numF, hc, if_true] at h; cases h
    · simp only [numF, hc, if_false] at h ⊢
      injection h with h
      have h6 : (l.take 6).length = 6 := by rw [List.length_take]; omega
      have hv := val_lt (l.take 6)
      rw [h6] at hv
      have he : numE (val (l.take 6) : Int) = l.take 6 := by
        unfold numE
        have : (min (max (val (l.take 6) : Int) 0) 281474976710655).toNat = val (l.take 6) := by
          have : (256 : Nat) ^ 6 = 281474976710656 := by decide
          omega
        rw [this]
        have := be_val (l.take 6)
        rw [h6] at this; exact this
      rw [he, ← h, List.take_append_drop]
      exact ⟨rfl, by omega, by omega⟩
theorem textF_some {most : Int} {st : RS} {l' : List UInt8} (hm : most ≤ 65535) (h : (textF most st).2 = some l') : ∃ l, st = some l ∧ l = textE (textF most st).1 ++ l' ∧ ((textF most st).1.length : Int) ≤ most := by
  cases st with
  | none => cases h
  | some l =>
    refine ⟨l, rfl, ?_⟩
    unfold textF at h ⊢
    by_cases hc : l.length < 2 ∨ most < (val (l.take 2) : Int)
    · simp only [numF, hc, if_true] at h; cases h
    · simp only [numF, hc, if_false] at h ⊢
      have h2 : (l.take 2).length = 2 := by rw [List.length_take]; omega
      obtain ⟨n, hn⟩ : ∃ n, n = val (l.take 2) := ⟨_, rfl⟩
      rw [← hn] at h hc ⊢
      rw [Int.toNat_natCast] at h ⊢
      by_cases hl : (l.drop 2).length < n
      · simp only [takeF, hl, if_true] at h; cases h
      · simp only [takeF, hl, if_false] at h ⊢
        injection h with h
        have hln : ((l.drop 2).take n).length = n := by rw [List.length_take]; omega
        refine ⟨?_, by rw [hln]; omega⟩
        unfold textE
        rw [List.take_of_length_le (by rw [hln]; omega), hln, ← h]
        have hb := be_val (l.take 2)
        rw [h2, ← hn] at hb
        rw [hb, List.append_assoc, List.take_append_drop, List.take_append_drop]
theorem doneF_zero {st : RS} (h : doneF st = 0) : st = some [] := by
  cases st with
  | none => cases h
  | some l => cases l with
    | nil => rfl
    | cons a l => cases h
theorem arr_mk (s : ByteArray) : (⟨s.data.toList.toArray⟩ : ByteArray) = s := by simp
theorem numsE_two (a b : Int) : numsE [a, b] = numE a ++ numE b := by simp [numsE]
theorem wpList_load_run {P : Program} {w : World} {ops : Array Oper} {rest : List Oper} {o : Oper} {a : Act} {Q : Exit → Act → World → Prop} {t : TypeId} {x : Operand} {v v' : Value} (hr : (Instr.loadAt t v).run P w = .ok v' w) (hgd : o.guard = none) (ho : o.op = .load t x) (hx : a.eval x = v)
    (h : wpList P ops Q rest (a.put o.dst v') w) : wpList P ops Q (o :: rest) a w :=
  wpList_plain hgd fun _ hK => by
    unfold Oper.wp execOp
    simp only [ho, hx, Sem.run_bind, Sem.run_pure, Result.andThen_ok, hr]
    exact hK _ _ h
theorem wpList_store_run {P : Program} {w w' : World} {ops : Array Oper} {rest : List Oper} {o : Oper} {a : Act} {Q : Exit → Act → World → Prop} {t : TypeId} {x y : Operand} {v1 v2 : Value} (hr : (Instr.storeAt t v1 v2).run P w = .ok () w') (hgd : o.guard = none) (ho : o.op = .store t x y) (hx : a.eval x = v1) (hy : a.eval y = v2)
    (h : wpList P ops Q rest (a.put o.dst undef) w') : wpList P ops Q (o :: rest) a w :=
  wpList_plain hgd fun _ hK => by
    unfold Oper.wp execOp
    simp only [ho, hx, hy, Sem.run_bind, Sem.run_pure, Result.andThen_ok, hr]
    exact hK _ _ h
theorem wpList_load_g {P : Program} {w : World} {ops : Array Oper} {rest : List Oper} {o : Oper} {a : Act} {Q : Exit → Act → World → Prop} {t : TypeId} {x : Operand} {v v' : Value} (hr : (Instr.loadAt t v).run P w = .ok v' w) (ho : o.op = .load t x) (hx : a.eval x = v) (hw : Region.wanted o (yielded ops a.tmps) = true)
    (h : wpList P ops Q rest (a.put o.dst v') w) : wpList P ops Q (o :: rest) a w :=
  wpList_step fun K hK => by
    rw [if_pos hw]
    unfold Oper.wp execOp
    simp only [ho, hx, Sem.run_bind, Sem.run_pure, Result.andThen_ok, hr]
    exact hK _ _ h
theorem run_loadN {W : World} {b : Nat} {n : Nd} (h : NdB W b n) : (Instr.loadAt 40 (.pointer (some ⟨b, 0, none⟩))).run Tryz.prog W = .ok (ndV n) W := by
  obtain ⟨⟨c0, c1, c2, c3, c4, c5, c6⟩, _⟩ := NdB.cells h
  simp [go_sem, c0, c1, c2, c3, c4, c5, c6, ndV]
theorem storeN {W : World} {b : Nat} {m : Nd} (h : NdB W b m) (n : Nd) : ∃ W', (Instr.storeAt 40 (.pointer (some ⟨b, 0, none⟩)) (ndV n)).run Tryz.prog W = .ok () W' ∧ NdB W' b n ∧ (∀ (q : Nat) (x : World), q ≤ b → Below q x W → Below q x W') ∧ (∀ i, i ≠ b → W'.heap[i]? = W.heap[i]?) ∧ W'.heap.size = W.heap.size := by
  have NN := NdB.set7 h n
  obtain ⟨⟨c0, c1, c2, c3, c4, c5, c6⟩, f0, f1, f2, f3, f4, f5, f6⟩ := NdB.cells h
  refine ⟨_, by simp [go_sem, c0, c1, c2, c3, c4, c5, c6, f0, f1, f2, f3, f4, f5, f6, ndV], NN, fun q x hq hb => below7 hb hq _ _ _ _ _ _ _, fun i hi => ?_, by simp⟩
  exact ((Below.heap_setCell _ ⟨b, 6, none⟩ _ i hi).trans ((Below.heap_setCell _ ⟨b, 5, none⟩ _ i hi).trans ((Below.heap_setCell _ ⟨b, 4, none⟩ _ i hi).trans ((Below.heap_setCell _ ⟨b, 3, none⟩ _ i hi).trans ((Below.heap_setCell _ ⟨b, 2, none⟩ _ i hi).trans ((Below.heap_setCell _ ⟨b, 1, none⟩ _ i hi).trans ((Below.heap_setCell _ ⟨b, 0, none⟩ _ i hi).trans rfl)))))))
/-- A node in a new block, written as one step. -/
theorem newN (W : World) (n : Nd) : ∃ W', (Instr.storeAt 40 (.pointer (some ⟨W.heap.size, 0, none⟩)) (ndV n)).run Tryz.prog (W.alloc (.cells #[.string ⟨#[]⟩, .int .i64 0, .int .i64 0, .int .i64 0, .int .i64 0, .int .i64 0, .int .i64 0] 40)) = .ok () W' ∧ NdB W' W.heap.size n ∧ Below W.heap.size W W' ∧ W'.heap.size = W.heap.size + 1 := by
  obtain ⟨W', h1, h2, h3, _, h5⟩ := storeN (NdB.new W Nd.zero) n
  exact ⟨W', h1, h2, h3 _ _ (Nat.le_refl _) ((Below.refl _ W).alloc (Nat.le_refl _) _), by rw [h5]; simp⟩
end Go.Proofs.YtglgnelolcmaoaaGreatDoor
