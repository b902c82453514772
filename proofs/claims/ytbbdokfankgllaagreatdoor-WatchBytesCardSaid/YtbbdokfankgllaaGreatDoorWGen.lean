/- General facts on numbers and texts that are encoded and read; steps of a whole struct; a book beside a reader. No conditions beyond those in each statement. -/
import Derived.Test.YtbbdokfankgllaaGreatDoorWHead
import Derived.Test.YtbbdokfankgllaaGreatDoorPithAll
import Derived.Lib.SliceRun
import Derived.Lib.BufferRead
import Derived.Lib.AppendZeros
import Derived.Laws.IdiomStrings
namespace Go.Proofs.YtbbdokfankgllaaGreatDoor
open Go.RowKit Go.Maps
set_option linter.unusedVariables false
set_option linter.unusedSimpArgs false
set_option maxRecDepth 100000

theorem getD_mem {α : Type} {L : List α} {d : α} {k : Nat} (h : k < L.length) : L.getD k d ∈ L := by
  rw [List.getD_eq_getElem?_getD, List.getElem?_eq_getElem h]; exact List.getElem_mem h
theorem cells_new {w : World} {vs : Array Value} {t : TypeId} {j : Nat} {u : Value} (h : vs[j]? = some u) : (w.alloc (.cells vs t)).cell? ⟨w.heap.size, 0 + j, none⟩ = some u := by
  have h1 := heap_alloc_new w (.cells vs t)
  generalize w.alloc (.cells vs t) = W at h1
  simp [World.cell?, h1, h]
theorem Bs.mk {w : World} {B : Nat} {v : Value} {l m : List UInt8} (h : Bs w B v l) (e : l = m) : Bs w B v m := e ▸ h
theorem Bs.cut {w : World} {B : Nat} {v : Value} {l : List UInt8} (h : Bs w B v l) (h0 : 0 < l.length) : ∃ g c, v = .slice (some ⟨g, 0, none⟩) l.length c ∧ ∀ j u, (cellsOf l)[j]? = some u → w.cell? (Addr.add ⟨g, 0, none⟩ j) = some u := by
  obtain ⟨p, cap, hv, h1⟩ := h.src
  rcases h1 with ⟨_, hl, _⟩ | ⟨a, ha, hc⟩
  · rw [hl] at h0; simp at h0
  · rcases h.2 with ⟨_, h2⟩ | ⟨g, c, cur, h2, _⟩
    · omega
    · rw [hv] at h2
      injection h2 with e1 e2 e3
      rw [ha] at e1
      obtain rfl : a = ⟨g, 0, none⟩ := Option.some.inj e1
      exact ⟨g, cap, by rw [hv, ha], hc⟩
theorem und_u8 : Tryz.prog.underlying 5 = some (.int .u8) := by kernel_rfl
theorem run_str {w : World} {v : Value} {l : List UInt8} (h : Src w v l) : (convert 37 9 v).run Tryz.prog w = .ok (.string ⟨l.toArray⟩) w := by
  obtain ⟨p, cap, rfl, ⟨rfl, rfl, rfl⟩ | ⟨a, rfl, hc⟩⟩ := h
  · exact Lib.run_convert_nil_bytes w 37 9 5 0 und_bytes und_u8 und_string
  · exact run_convert_bytes_back w 37 9 5 a cap l und_bytes und_u8 und_string (fun j hj => hc j _ (by simp [cellsOf, hj]))
theorem kept_set {x : World} {b c i : Nat} {u : Value} {o : Obj} (h : x.heap[c]? = some o) (hne : c ≠ b) : (x.setCell ⟨b, i, none⟩ u).heap[c]? = some o := (Below.heap_setCell x ⟨b, i, none⟩ u c hne).trans h
theorem Rs.set {x : World} {b c i : Nat} {u : Value} {st : RS} (h : Rs x c st) (hne : c ≠ b) : Rs (x.setCell ⟨b, i, none⟩ u) c st := by
  cases st with
  | none => exact kept_set h hne
  | some l => exact ⟨kept_set h.1 hne, h.2⟩
theorem numF_most (st : RS) (most : Int) (h0 : 0 ≤ most) : 0 ≤ (numF 6 most st).1 ∧ (numF 6 most st).1 ≤ most := by
  cases st with
  | none => exact ⟨Int.le_refl 0, h0⟩
  | some l =>
    by_cases hc : l.length < 6 ∨ most < (val (l.take 6) : Int)
    · simp only [numF, hc, if_true]; exact ⟨Int.le_refl 0, h0⟩
    · simp only [numF, hc, if_false]; omega
theorem textF_len (most : Nat) (st : RS) : (textF most st).1.length ≤ most := by
  cases st with
  | none => exact Nat.zero_le _
  | some l =>
    unfold textF
    by_cases hc : l.length < 2 ∨ (most : Int) < (val (l.take 2) : Int)
    · simp only [numF, hc, if_true]; simp [takeF]
    · simp only [numF, hc, if_false]
      have := takeF_len (val (l.take 2)) (some (l.drop 2))
      rw [Int.toNat_natCast]; omega
theorem size_arr (l : List UInt8) : (⟨l.toArray⟩ : ByteArray).size = l.length := by simp [ByteArray.size]
theorem numF_some {most : Int} {st : RS} {l' : List UInt8} (hm : most ≤ 281474976710655) (h : (numF 6 most st).2 = some l') : ∃ l, st = some l ∧ l = numE (numF 6 most st).1 ++ l' ∧ 0 ≤ (numF 6 most st).1 ∧ (numF 6 most st).1 ≤ most := by
  cases st with
  | none => cases h
  | some l =>
    refine ⟨l, rfl, ?_⟩
    by_cases hc : l.length < 6 ∨ most < (val (l.take 6) : Int)
    · simp only [numF, hc, if_true] at h; cases h
    · simp only [numF, hc, if_false] at h ⊢
      injection h with h
      have h6 : (l.take 6).length = 6 := by rw [List.length_take]; omega
      have hv := val_lt (l.take 6)
      rw [h6] at hv
      have he : numE (val (l.take 6) : Int) = l.take 6 := by
        unfold numE
        have : (min (max (val (l.take 6) : Int) 0) 281474976710655).toNat = val (l.take 6) := by
          have : (256 : Nat) ^ 6 = 281474976710656 := by decide
          omega
        rw [this]
        have := be_val (l.take 6)
        rw [h6] at this; exact this
      rw [he, ← h, List.take_append_drop]
      exact ⟨rfl, by omega, by omega⟩
theorem textF_some {most : Int} {st : RS} {l' : List UInt8} (hm : most ≤ 65535) (h : (textF most st).2 = some l') : ∃ l, st = some l ∧ l = textE (textF most st).1 ++ l' ∧ ((textF most st).1.length : Int) ≤ most := by
  cases st with
  | none => cases h
  | some l =>
    refine ⟨l, rfl, ?_⟩
    unfold textF at h ⊢
    by_cases hc : l.length < 2 ∨ most < (val (l.take 2) : Int)
    · simp only [numF, hc, if_true] at h; cases h
    · simp only [numF, hc, if_false] at h ⊢
      have h2 : (l.take 2).length = 2 := by rw [List.length_take]; omega
      obtain ⟨n, hn⟩ : ∃ n, n = val (l.take 2) := ⟨_, rfl⟩
      rw [← hn] at h hc ⊢
      rw [Int.toNat_natCast] at h ⊢
      by_cases hl : (l.drop 2).length < n
      · simp only [takeF, hl, if_true] at h; cases h
      · simp only [takeF, hl, if_false] at h ⊢
        injection h with h
        have hln : ((l.drop 2).take n).length = n := by rw [List.length_take]; omega
        refine ⟨?_, by rw [hln]; omega⟩
        unfold textE
        rw [List.take_of_length_le (by rw [hln]; omega), hln, ← h]
        have hb := be_val (l.take 2)
        rw [h2, ← hn] at hb
        rw [hb, List.append_assoc, List.take_append_drop, List.take_append_drop]
theorem doneF_zero {st : RS} (h : doneF st = 0) : st = some [] := by
  cases st with
  | none => cases h
  | some l => cases l with
    | nil => rfl
    | cons a l => cases h
theorem arr_mk (s : ByteArray) : (⟨s.data.toList.toArray⟩ : ByteArray) = s := by simp
theorem numsE_two (a b : Int) : numsE [a, b] = numE a ++ numE b := by simp [numsE]
theorem wpList_load_run {P : Program} {w : World} {ops : Array Oper} {rest : List Oper} {o : Oper} {a : Act} {Q : Exit → Act → World → Prop} {t : TypeId} {x : Operand} {v v' : Value} (hr : (Instr.loadAt t v).run P w = .ok v' w) (hgd : o.guard = none) (ho : o.op = .load t x) (hx : a.eval x = v)
    (h : wpList P ops Q rest (a.put o.dst v') w) : wpList P ops Q (o :: rest) a w :=
  wpList_plain hgd fun _ hK => by
    unfold Oper.wp execOp
    simp only [ho, hx, Sem.run_bind, Sem.run_pure, Result.andThen_ok, hr]
    exact hK _ _ h
theorem wpList_store_run {P : Program} {w w' : World} {ops : Array Oper} {rest : List Oper} {o : Oper} {a : Act} {Q : Exit → Act → World → Prop} {t : TypeId} {x y : Operand} {v1 v2 : Value} (hr : (Instr.storeAt t v1 v2).run P w = .ok () w') (hgd : o.guard = none) (ho : o.op = .store t x y) (hx : a.eval x = v1) (hy : a.eval y = v2)
    (h : wpList P ops Q rest (a.put o.dst undef) w') : wpList P ops Q (o :: rest) a w :=
  wpList_plain hgd fun _ hK => by
    unfold Oper.wp execOp
    simp only [ho, hx, hy, Sem.run_bind, Sem.run_pure, Result.andThen_ok, hr]
    exact hK _ _ h
theorem wpList_load_g {P : Program} {w : World} {ops : Array Oper} {rest : List Oper} {o : Oper} {a : Act} {Q : Exit → Act → World → Prop} {t : TypeId} {x : Operand} {v v' : Value} (hr : (Instr.loadAt t v).run P w = .ok v' w) (ho : o.op = .load t x) (hx : a.eval x = v) (hw : Region.wanted o (yielded ops a.tmps) = true)
    (h : wpList P ops Q rest (a.put o.dst v') w) : wpList P ops Q (o :: rest) a w :=
  wpList_step fun K hK => by
    rw [if_pos hw]
    unfold Oper.wp execOp
    simp only [ho, hx, Sem.run_bind, Sem.run_pure, Result.andThen_ok, hr]
    exact hK _ _ h
theorem row_formL {w : World} {base n : Nat} {e : TypeId} {size : Nat} {v : Value} {xs : List Value} (h : w.ownsRow base e size v n xs) : ∃ a c, v = .slice a n c ∧ (0 < n → ∃ g, a = some ⟨g, 0, none⟩) := by
  rcases h.2 with ⟨h1, h2⟩ | ⟨g, c, cur, h1, _⟩
  · exact ⟨none, 0, by rw [h1, h2], fun h => by omega⟩
  · exact ⟨_, _, h1, fun _ => ⟨g, rfl⟩⟩
theorem row_apart {w : World} {base base' n n' c c' s s' g g' : Nat} {e e' : TypeId} {xs xs' : List Value} (h : w.ownsRow base e s (.slice (some ⟨g, 0, none⟩) n c) n xs) (h' : w.ownsRow base' e' s' (.slice (some ⟨g', 0, none⟩) n' c') n' xs') (hn : e ≠ e') : g ≠ g' := by
  rintro rfl
  rcases h.2 with ⟨h1, _⟩ | ⟨g1, c1, cur, h1, _, h4, _⟩
  · cases h1
  · rcases h'.2 with ⟨h1', _⟩ | ⟨g2, c2, cur', h1', _, h4', _⟩
    · cases h1'
    · injection h1 with h1; injection h1 with h1; injection h1 with h1
      injection h1' with h1'; injection h1' with h1'; injection h1' with h1'
      subst h1 h1'
      rw [h4] at h4'
      injection h4' with h4'
      injection h4' with _ h5
      exact hn h5
/-- Nothing below base but block rb turned. -/
structure LowR (base rb : Nat) (w w' : World) : Prop where
  os : w'.os = w.os
  tape : w'.tape = w.tape
  output : w'.output = w.output
  size : w.heap.size ≤ w'.heap.size
  block : ∀ i, i < base → i ≠ rb → w'.heap[i]? = w.heap[i]?
theorem LowR.refl (base rb : Nat) (w : World) : LowR base rb w w := ⟨rfl, rfl, rfl, Nat.le_refl _, fun _ _ _ => rfl⟩
theorem LowR.low {base rb : Nat} {a w x : World} (h : LowR base rb a w) (k : Below base w x) : LowR base rb a x := ⟨k.os.trans h.os, k.tape.trans h.tape, k.output.trans h.output, Nat.le_trans h.size k.size, fun i hi hne => (k.block i hi).trans (h.block i hi hne)⟩
theorem LowR.grown {base rb : Nat} {a w x : World} (h : LowR base rb a w) (k : w.grownBy x (some rb)) (hb : base ≤ a.heap.size) : LowR base rb a x := ⟨k.os.trans h.os, k.tape.trans h.tape, k.output.trans h.output, Nat.le_trans h.size k.size, fun i hi hne => (k.block i (Nat.lt_of_lt_of_le hi (Nat.le_trans hb h.size)) (fun e => hne (Option.some.inj e))).trans (h.block i hi hne)⟩
theorem LowR.trans {base rb : Nat} {a w x : World} (h : LowR base rb a w) (k : LowR base rb w x) : LowR base rb a x := ⟨k.os.trans h.os, k.tape.trans h.tape, k.output.trans h.output, Nat.le_trans h.size k.size, fun i hi hne => (k.block i hi hne).trans (h.block i hi hne)⟩
theorem Rs.lowB {w w' : World} {base b : Nat} {st : RS} (h : Rs w b st) (k : Below base w w') (hb : b < base) : Rs w' b st := by
  cases st with
  | none => exact (k.block b hb).trans h
  | some l => exact ⟨(k.block b hb).trans h.1, h.2⟩
theorem BkW.reader {w w' : World} {base bb rb : Nat} {vw ve vm : Value} {Ws : List Wa} {Es : List Ev} {k c : Nat} {N : Int → Option Int} (h : BkW w base bb vw ve vm Ws Es k c N) (hg : w.grownBy w' (some rb)) (hr : rb < base) : BkW w' base bb vw ve vm Ws Es k c N := by
  have hlo := h.lo.1
  refine ⟨(hg.block bb h.lt (fun e => by have := Option.some.inj e; omega)).trans h.box, h.ws.kept hg (fun g hv e => ?_), h.es.kept hg (fun g hv e => ?_), h.last.imp id ?_, h.lo.1, Nat.le_trans h.lo.2 hg.size⟩
  · obtain ⟨_, _, h1⟩ := row_own h.ws hv; have := Option.some.inj e; omega
  · obtain ⟨_, _, h1⟩ := row_own h.es hv; have := Option.some.inj e; omega
  · rintro ⟨mb, h1, h2, h3⟩
    exact ⟨mb, h1, h2.keep0 (hg.block mb h2.lt (fun e => by have := Option.some.inj e; omega)), h3⟩
end Go.Proofs.YtbbdokfankgllaaGreatDoor
