/- More steps for a region that draws its order (Invar): a load, a field's address, a call of two arguments, an operation behind a guard; what a call waits for. A record's bytes in a row, four beside one another turned: what Get answers then. No conditions beyond those in each statement. A device alone among what a call has made, with records; what its blocks read as, in plain words. No conditions beyond those in each statement. A device beside blocks that it leaves alone: what slot's and dev's functions do to it. No conditions beyond those in each statement. Package head in plain words: a head, its copy, what a record tells of a head; no program. -/
import Derived.Test.YtiknfifiglooeaaDoorInvar
import Derived.Test.YtiknfifiglooeaaDoorSlotArgs
namespace Go.Proofs.YtiknfifiglooeaaDoor
section
open Go Go.RowKit
set_option linter.unusedVariables false
set_option maxRecDepth 100000

section
variable {P : Program} {Q : Exit → Act → World → Prop} {l : List Oper}
theorem step_load {i : Nat} {o : Oper} {a : Act} {w : World} {K : Act → World → Prop} (ho : l[i]? = some o) (hg : o.guard = none) (t : TypeId) (s : Operand) (hop : o.op = .load t s) (v : Value) (he : a.eval s = v) (v' : Value)
    (hr : (Instr.loadAt t v).run P w = .ok v' w) (h : K (a.put o.dst v') w) : wpOp P l.toArray Q i K a w :=
  step_value ho hg v' w (by simp only [execOp, hop, he, Sem.run_bind, Sem.run_pure, hr, Result.andThen_ok]) h
theorem step_field {i : Nat} {o : Oper} {a : Act} {w : World} {K : Act → World → Prop} (ho : l[i]? = some o) (hg : o.guard = none) (t : TypeId) (s : Operand) (f : Nat) (hop : o.op = .fieldAddr t s f) (v : Value) (he : a.eval s = v) (v' : Value)
    (hr : (Instr.fieldAt t v f).run P w = .ok v' w) (h : K (a.put o.dst v') w) : wpOp P l.toArray Q i K a w :=
  step_value ho hg v' w (by simp only [execOp, hop, he, Sem.run_bind, Sem.run_pure, hr, Result.andThen_ok]) h
theorem step_call2 {i : Nat} {o : Oper} {a : Act} {w : World} {K : Act → World → Prop} (ho : l[i]? = some o) (hg : o.guard = none) (f : FuncId) (s1 s2 : Operand) (ts : Array TypeId) (hop : o.op = .call { callee := .value (.func f), args := #[s1, s2], argTypes := ts }) (v1 v2 : Value) (he1 : a.eval s1 = v1) (he2 : a.eval s2 = v2) (hf : (callFunc f #[v1, v2]).run P w = .ok (.enter f #[v1, v2]) w)
    (h : Calls P f #[v1, v2] w fun e w'' => ∃ v, e = .returned v ∧ K (a.put o.dst v) w'') : wpOp P l.toArray Q i K a w :=
  step_enter ho hg f #[v1, v2] w (by simp only [execOp, hop, resolve, invoke, Deferred.ofValue, show a.eval (.func f) = .func (.func f) #[] #[] from rfl, List.map_toArray, List.map_cons, List.map_nil, he1, he2, Sem.run_bind, Sem.run_pure, Result.andThen_ok]; simpa using hf) h
end

/-- One number, in a slice of its own. -/
def OneI (w : World) (v : Value) (z : Int) : Prop := ∃ b, v = .slice (some ⟨b, 0, none⟩) 1 1 ∧ w.cell? ⟨b, 0, none⟩ = some (.int .i64 z) ∧ b < w.heap.size
theorem OneI.below {w w' : World} {v : Value} {z : Int} (h : OneI w v z) (k : Below w.heap.size w w') : OneI w' v z := by
  obtain ⟨b, hv, hc, hb⟩ := h
  exact ⟨b, hv, (k.cell (p := ⟨b, 0, none⟩) hb).trans hc, Nat.lt_of_lt_of_le hb k.size⟩
theorem OneI.new (w : World) (z : Int) : OneI (w.alloc (.cells #[.int .i64 z] 3)) (.slice (some ⟨w.heap.size, 0, none⟩) 1 1) z :=
  ⟨_, rfl, by simp [World.cell?_alloc_at], by simp⟩
/-- One string, in a slice of its own. -/
def OneS (w : World) (v : Value) (s : ByteArray) : Prop := ∃ b, v = .slice (some ⟨b, 0, none⟩) 1 1 ∧ w.cell? ⟨b, 0, none⟩ = some (.string s) ∧ b < w.heap.size
theorem OneS.below {w w' : World} {v : Value} {s : ByteArray} (h : OneS w v s) (k : Below w.heap.size w w') : OneS w' v s := by
  obtain ⟨b, hv, hc, hb⟩ := h
  exact ⟨b, hv, (k.cell (p := ⟨b, 0, none⟩) hb).trans hc, Nat.lt_of_lt_of_le hb k.size⟩
theorem OneS.new (w : World) (s : ByteArray) : OneS (w.alloc (.cells #[.string s] 9)) (.slice (some ⟨w.heap.size, 0, none⟩) 1 1) s :=
  ⟨_, rfl, by simp [World.cell?_alloc_at], by simp⟩
theorem OneI.num {w : World} {u v : Value} {z : Int} {l : List UInt8} (h : OneI w v z) (hs : Src w u l) (hl : l.length ≤ 100000) (hz : -9223372036854775808 ≤ z ∧ z ≤ 9223372036854775807) :
    Calls Tryd.prog 47 #[u, v] w fun e w' => ∃ v', e = .returned v' ∧ Src w' v' (l ++ numE z) ∧ Below w.heap.size w w' := by
  obtain ⟨b, rfl, hc, hb⟩ := h
  refine (num_list u l b 0 1 [z] w hs hb (by simp; omega) ?_ ?_).mono ?_
  · intro j hj
    match j, hj with
    | 0, _ => exact hz
  · intro j hj
    match j, hj with
    | 0, _ => exact hc
  · rintro e w' ⟨v', he, ho, hb⟩
    exact ⟨v', he, by simpa [numsE] using ho.src, hb⟩
theorem OneS.text {w : World} {u v : Value} {s : ByteArray} {l : List UInt8} (h : OneS w v s) (hs : Src w u l) (hl : l.length ≤ 100000) (hz : s.size ≤ maxLen) :
    Calls Tryd.prog 123 #[u, v] w fun e w' => ∃ v', e = .returned v' ∧ Src w' v' (l ++ textE s.data.toList) ∧ Below w.heap.size w w' := by
  obtain ⟨b, rfl, hc, hb⟩ := h
  refine (text_list u l b 0 1 [s] w hs hb (by simp; omega) ?_ ?_).mono ?_
  · intro j hj
    match j, hj with
    | 0, _ => exact hz
  · intro j hj
    match j, hj with
    | 0, _ => exact hc
  · rintro e w' ⟨v', he, ho, hb⟩
    exact ⟨v', he, by simpa [textsE] using ho.src, hb⟩
theorem run_oneI (W : World) (z : Int) : (Instr.buildSlice 90 1 #[(0, .int .i64 z)]).run Tryd.prog W = .ok (.slice (some ⟨W.heap.size, 0, none⟩) 1 1) (W.alloc (.cells #[.int .i64 z] 3)) := by
  go_simp
theorem run_oneS (W : World) (s : ByteArray) : (Instr.buildSlice 63 1 #[(0, .string s)]).run Tryd.prog W = .ok (.slice (some ⟨W.heap.size, 0, none⟩) 1 1) (W.alloc (.cells #[.string s] 9)) := by
  go_simp
theorem run_recf0 (W : World) (b : Nat) : (Instr.fieldAt 58 (.pointer (some ⟨b, 0, none⟩)) 0).run Tryd.prog W = .ok (.pointer (some ⟨b, 0, none⟩)) W := by go_simp
theorem run_recf1 (W : World) (b : Nat) : (Instr.fieldAt 58 (.pointer (some ⟨b, 0, none⟩)) 1).run Tryd.prog W = .ok (.pointer (some ⟨b, 1, none⟩)) W := by go_simp
theorem run_recf2 (W : World) (b : Nat) : (Instr.fieldAt 58 (.pointer (some ⟨b, 0, none⟩)) 2).run Tryd.prog W = .ok (.pointer (some ⟨b, 2, none⟩)) W := by go_simp
theorem run_recf3 (W : World) (b : Nat) : (Instr.fieldAt 58 (.pointer (some ⟨b, 0, none⟩)) 3).run Tryd.prog W = .ok (.pointer (some ⟨b, 3, none⟩)) W := by go_simp
theorem run_loadI (W : World) (p : Addr) (z : Int) (h : W.cell? p = some (.int .i64 z)) : (Instr.loadAt 3 (.pointer (some p))).run Tryd.prog W = .ok (.int .i64 z) W := by go_simp
theorem run_loadS (W : World) (p : Addr) (s : ByteArray) (h : W.cell? p = some (.string s)) : (Instr.loadAt 9 (.pointer (some p))).run Tryd.prog W = .ok (.string s) W := by go_simp
theorem call1 (W : World) (f : FuncId) (v : Value) (h : ∀ W', (callFunc f #[v]).run Tryd.prog W' = .ok (.enter f #[v]) W') : (callFunc f #[v]).run Tryd.prog W = .ok (.enter f #[v]) W := h W
theorem call_num (W : World) (u v : Value) : (callFunc 47 #[u, v]).run Tryd.prog W = .ok (.enter 47 #[u, v]) W := by go_simp
theorem call_text (W : World) (u v : Value) : (callFunc 123 #[u, v]).run Tryd.prog W = .ok (.enter 123 #[u, v]) W := by go_simp
theorem call_seal (W : World) (u : Value) : (callFunc 124 #[u]).run Tryd.prog W = .ok (.enter 124 #[u]) W := by go_simp
end
section
open Go.RowKit
set_option linter.unusedVariables false
set_option maxRecDepth 100000

theorem i64_and65535 (n : Int) : bits .and .i64 n 65535 = n % 65536 := by
  have h127 : (BitVec.ofInt 64 65535).toNat = 2 ^ 16 - 1 := by decide
  have key : (BitVec.ofInt 64 n &&& BitVec.ofInt 64 65535).toNat = (n % ((2 ^ 64 : Nat) : Int)).toNat % 2 ^ 16 := by
    rw [BitVec.toNat_and, BitVec.toNat_ofInt, h127, Nat.and_two_pow_sub_one_eq_mod]
  show IntKind.i64.wrap ((BitVec.ofInt 64 n &&& BitVec.ofInt 64 65535).toNat : Nat) = n % 65536
  rw [key, IntKind.wrap_i64]
  omega
/-- The row of the bytes. -/
def RowIs (w : World) (g M : Nat) (L : List UInt8) (Z : List Value) : Prop := w.heap[g]? = some (.cells (cellsOf L ++ Z).toArray 5 (M, M + 1))
theorem RowIs.cell {w : World} {g M : Nat} {L : List UInt8} {Z : List Value} (h : RowIs w g M L Z) (i : Nat) (hi : i < L.length) : w.cell? ⟨g, i, none⟩ = some (.int .u8 ((L.getD i 0).toNat : Int)) := by
  unfold RowIs at h
  simp [World.cell?, h, cellsOf, List.getElem?_append, hi]
theorem RowIs.free {w : World} {g M : Nat} {L : List UInt8} {Z : List Value} (h : RowIs w g M L Z) (i : Nat) (hi : i < M) : w.frozen? ⟨g, i, none⟩ = false := by
  unfold RowIs at h
  simp [World.frozen?, h]
  omega
theorem RowIs.set {w : World} {g M : Nat} {L : List UInt8} {Z : List Value} (h : RowIs w g M L Z) (i : Nat) (hi : i < L.length) (c : UInt8) : RowIs (w.setCell ⟨g, i, none⟩ (.int .u8 (c.toNat : Int))) g M (L.set i c) Z := by
  have hlt := lt_of_block h
  have h2 : w.heap[g]? = some (.cells (cellsOf L ++ Z).toArray 5 (M, M + 1)) := h
  have h' : w.heap[g] = .cells (cellsOf L ++ Z).toArray 5 (M, M + 1) := by simpa [Array.getElem?_eq_getElem hlt] using h2
  show (w.heap.modify g _)[g]? = _
  rw [Array.getElem?_eq_getElem (by simpa using hlt), Array.getElem_modify_self, h']
  have e : (cellsOf L ++ Z).toArray.setIfInBounds i (.int .u8 (c.toNat : Int)) = (cellsOf (L.set i c) ++ Z).toArray := by
    rw [List.setIfInBounds_toArray, List.set_append_left _ _ (by rw [cellsOf_length]; exact hi)]
    unfold cellsOf
    rw [List.map_set]
  simp [e]
theorem RowIs.src {w : World} {g M : Nat} {L : List UInt8} {Z : List Value} (h : RowIs w g M L Z) (c : Nat) : Src w (.slice (some ⟨g, 0, none⟩) L.length c) L := by
  refine ⟨_, c, rfl, .inr ⟨_, rfl, fun j x hx => ?_⟩⟩
  have hj : j < L.length := by
    have := (List.getElem?_eq_some_iff.1 hx).1
    rwa [cellsOf_length] at this
  rw [show (Addr.add ⟨g, 0, none⟩ j : Addr) = ⟨g, j, none⟩ by simp [Addr.add]; omega]
  unfold RowIs at h
  simp only [World.cell?, h]
  rw [← hx]
  simp [List.getElem?_append, cellsOf_length, hj]
theorem RowIs.below {w w' : World} {g M : Nat} {L : List UInt8} {Z : List Value} (h : RowIs w g M L Z) (k : Below w.heap.size w w') : RowIs w' g M L Z := (k.block g (lt_of_block h)).trans h

theorem get_turned {r : Rc} (h : r.Ok) (j tn : Nat) (hj : 4 * j + 4 ≤ r.bytes.size) (ht : tn ≠ 0) (ht2 : tn < 4294967296) : getF ⟨(turnL r.bytes.data.toList (4 * j) tn 4).toArray⟩ = (rc0, 2) := by
  have hs := bytes_size h
  have hl := enc_length h
  refine get_closed (by rw [size_mk, turnL_length, ← Lib.size_eq]; omega) ?_
  rw [data_mk, bytes_list]
  rcases j with _ | j
  · exact opens_turned_sum r.enc tn ht ht2
  · rw [show 4 * (j + 1) = 4 + 4 * j by omega]
    exact opens_turned_text r.enc (4 * j) tn (by omega) ht ht2
end
section
open Go.RowKit
set_option linter.unusedVariables false
set_option maxRecDepth 100000

section
variable {n : Nat} {w x : World} {B : Nat} {D D' : Dv}
theorem lone_sread (i : Int) (ht : Tabs w) (hw : D.writes ≤ 1073741824) (h : Lone n w B D) :
    Calls Tryd.prog 26 #[.pointer (some ⟨B, 0, none⟩), .int .i64 i] w fun e w' => e = .returned (sreadV (D.sread i)) ∧ Below w.heap.size w w' := by
  obtain ⟨S, h, hS⟩ := h
  exact sread_any i h ht hw
theorem lone_swrite (i : Int) (r : Rc) (hn : n ≤ w.heap.size) (ht : Tabs w) (hw : D.writes ≤ 1073741824) (h : Lone n w B D) :
    Calls Tryd.prog 77 #[.pointer (some ⟨B, 0, none⟩), .int .i64 i, recV r] w fun e w' => e = .returned (.int .i64 (D.swrite i r).1) ∧ Lone n w' B (D.swrite i r).2 ∧ Below n w w' := by
  obtain ⟨S, h, hS⟩ := h
  refine (swrite_any i r h ht hw).mono ?_
  rintro e w' ⟨rfl, S', h', hS', hm⟩
  exact ⟨rfl, ⟨S', h', fun k hk => (hS' k hk).elim (hS k) (fun e => Nat.le_trans hn e)⟩, hm.toBelow hS hn⟩
theorem lone_lose (i : Int) (hn : n ≤ w.heap.size) (h : Lone n w B D) :
    Calls Tryd.prog 40 #[.pointer (some ⟨B, 0, none⟩), .int .i64 i] w fun e w' => e = .returned (.tuple #[]) ∧ Lone n w' B (D.onB i Blk.lose) ∧ Below n w w' := by
  obtain ⟨S, h, hS⟩ := h
  refine (lose_any i h).mono ?_
  rintro e w' ⟨rfl, h', hm⟩
  exact ⟨rfl, ⟨S, h', hS⟩, hm.toBelow hS hn⟩
theorem lone_flip (i a : Int) (bt : Nat) (ha : -9223372036854775808 ≤ a ∧ a ≤ 9223372036854775807) (hbt : bt < 256) (hn : n ≤ w.heap.size) (h : Lone n w B D) :
    Calls Tryd.prog 41 #[.pointer (some ⟨B, 0, none⟩), .int .i64 i, .int .i64 a, .int .u8 bt] w fun e w' => e = .returned (.tuple #[]) ∧ Lone n w' B (D.onB i fun b => b.flip a bt) ∧ Below n w w' := by
  obtain ⟨S, h, hS⟩ := h
  refine (flip_any i a bt ha hbt h).mono ?_
  rintro e w' ⟨rfl, h', hm⟩
  exact ⟨rfl, ⟨S, h', hS⟩, hm.toBelow hS hn⟩
end

theorem sread_lost {D : Dv} {b : Blk} (k : Nat) (hd : D.down = false) (hb : D.bs[k]? = some b) (hl : b.lost = true) : D.sread (k : Int) = (rc0, 2, 0) := by
  have hk := (List.getElem?_eq_some_iff.1 hb).1
  have hh : D.hasB (k : Int) = true := by simp [Dv.hasB]; omega
  have e : D.read (k : Int) = (⟨#[]⟩, 6) := by simp [Dv.read, hd, hh, hb, hl]
  unfold Dv.sread
  rw [e, if_pos rfl]
theorem sread_of {D : Dv} {b : Blk} (k : Nat) (hd : D.down = false) (hb : D.bs[k]? = some b) (hl : b.lost = false) : D.sread (k : Int) = ((getF b.contents).1, (getF b.contents).2, 0) := by
  unfold Dv.sread
  rw [read_of k hd hb hl, if_neg (show ¬ (0 : Int) = 6 by decide), if_pos rfl]
theorem sread_down {D : Dv} (i : Int) (hd : D.down = true) : D.sread i = (rc0, 0, 5) := by
  have e : D.read i = (⟨#[]⟩, 5) := by simp [Dv.read, hd]
  unfold Dv.sread
  rw [e, if_neg (show ¬ (5 : Int) = 6 by decide), if_neg (show ¬ (5 : Int) = 0 by decide)]
theorem sread_out {D : Dv} (i : Int) (hd : D.down = false) (hh : D.hasB i = false) : D.sread i = (rc0, 0, 7) := by
  have e : D.read i = (⟨#[]⟩, 7) := by simp [Dv.read, hd, hh]
  unfold Dv.sread
  rw [e, if_neg (show ¬ (7 : Int) = 6 by decide), if_neg (show ¬ (7 : Int) = 0 by decide)]
theorem swrite_of {D : Dv} {b : Blk} (k : Nat) {r : Rc} (ho : r.Ok) (hu : D.up = true) (hb : D.bs[k]? = some b) : D.swrite (k : Int) r = (0, { D.op with bs := D.bs.set k (b.write D.writes r.bytes), writes := D.writes + 1 }) := by
  unfold Dv.swrite
  rw [put_ok ho, if_pos rfl]
  exact write_of k r.bytes hu hb (by rw [bytes_size ho]; have := ho.data; omega)
theorem swrite_down {D : Dv} (i : Int) {r : Rc} (ho : r.Ok) (hu : D.up = false) : D.swrite i r = (5, D.op) := by
  unfold Dv.swrite
  rw [put_ok ho, if_pos rfl]
  simp [Dv.write, hu]
theorem swrite_bad {D : Dv} (i : Int) {r : Rc} (h : r.put.2 ≠ 0) : D.swrite i r = (r.put.2, D) := by
  unfold Dv.swrite
  rw [if_neg h]

/-- m empty blocks, but for the k-th; n writes since the last Flush. -/
def DB (m k n : Nat) (b : Blk) : Dv := ⟨(List.replicate m blk0).set k b, n, false, 0, false⟩
theorem DB_new (m k : Nat) (hk : k < m) (hm : m ≤ 4096) : Dv.new (m : Int) = DB m k 0 blk0 := by
  have e : howMany (m : Int) = m := by unfold howMany; omega
  unfold Dv.new Dv.newN DB
  rw [e, set_self _ _ _ (by rw [List.getElem?_replicate, if_pos hk])]
theorem DB_at (m k n : Nat) (b : Blk) (hk : k < m) : (DB m k n b).bs[k]? = some b := by
  show ((List.replicate m blk0).set k b)[k]? = some b
  rw [List.getElem?_set_self (by simpa using hk)]
theorem DB_len (m k n : Nat) (b : Blk) : (DB m k n b).bs.length = m := by simp [DB]
theorem DB_write (m k n : Nat) (b : Blk) (hk : k < m) {r : Rc} (ho : r.Ok) : (DB m k n b).swrite (k : Int) r = (0, DB m k (n + 1) (b.write n r.bytes)) := by
  rw [swrite_of k ho rfl (DB_at m k n b hk)]
  unfold DB Dv.op
  simp
theorem DB_flush (m k n : Nat) (b : Blk) : (DB m k n b).flush = (0, DB m k 0 b.flush) := by
  have e : blk0.flush = blk0 := rfl
  have hu : (DB m k n b).up = true := rfl
  have ho : (DB m k n b).op = DB m k n b := rfl
  unfold Dv.flush
  rw [if_pos hu, ho]
  unfold Dv.flushed DB
  simp only [List.map_set, List.map_replicate, e]
theorem DB_on (m k n : Nat) (b : Blk) (f : Blk → Blk) (hk : k < m) : (DB m k n b).onB (k : Int) f = DB m k n (f b) := by
  rw [onB_at rfl (DB_at m k n b hk)]
  unfold DB
  simp
theorem DB_read (m k n : Nat) (b : Blk) (hk : k < m) (hl : b.lost = false) : (DB m k n b).sread (k : Int) = ((getF b.contents).1, (getF b.contents).2, 0) := sread_of k rfl (DB_at m k n b hk) hl
theorem DB_lost (m k n : Nat) (b : Blk) (hk : k < m) (hl : b.lost = true) : (DB m k n b).sread (k : Int) = (rc0, 2, 0) := sread_lost k rfl (DB_at m k n b hk) hl
theorem DB_crash (m k n : Nat) (b : Blk) (zs : List Int) : (DB m k n b).crash zs = DB m k 0 (b.crash zs) := by
  have e : blk0.crash zs = blk0 := rfl
  unfold Dv.crash DB
  simp only [List.map_set, List.map_replicate, e]
theorem write_contents (b : Blk) (n : Nat) (s : ByteArray) : (b.write n s).contents = s := contents_snoc (l := b.pending) (p := ⟨n, s⟩) rfl
theorem write_flush (b : Blk) (n : Nat) (s : ByteArray) : (b.write n s).flush = ⟨s, false, false, []⟩ := by
  unfold Blk.flush
  rw [if_neg (by simp [Blk.write]), write_contents]
  rfl

/-- One byte of four turned. -/
theorem turn_byte (l : List UInt8) (p c bt : Nat) (h4 : p + 4 ≤ l.length) (hc : c < 4) (hb : bt < 256) : turnL l p (bt * 256 ^ c) 4 = l.set (p + c) (flip8 (l.getD (p + c) 0) bt) := by
  obtain ⟨c0, c1, c2, c3, hl⟩ := split4 l p h4
  obtain ⟨A, hA⟩ : ∃ A, A = l.take p := ⟨_, rfl⟩
  obtain ⟨E, hE⟩ : ∃ E, E = l.drop (p + 4) := ⟨_, rfl⟩
  have hAl : A.length = p := by rw [hA, List.length_take]; omega
  rw [← hA, ← hE] at hl
  rw [hl, turnL_four A E c0 c1 c2 c3 p _ hAl]
  clear hl hA hE h4
  subst hAl
  have z : ∀ c : UInt8, flip8 c 0 = c := fun c => by unfold flip8; simp
  match c, hc with
  | 0, _ =>
    rw [show bt * 256 ^ 0 = bt by omega, show bt % 256 = bt by omega, show bt / 256 % 256 = 0 by omega, show bt / 65536 % 256 = 0 by omega, show bt / 16777216 % 256 = 0 by omega, z, z, z]
    simp
  | 1, _ =>
    rw [show bt * 256 ^ 1 = bt * 256 by omega, show bt * 256 % 256 = 0 by omega, show bt * 256 / 256 % 256 = bt by omega, show bt * 256 / 65536 % 256 = 0 by omega, show bt * 256 / 16777216 % 256 = 0 by omega, z, z, z]
    simp
  | 2, _ =>
    rw [show bt * 256 ^ 2 = bt * 65536 by omega, show bt * 65536 % 256 = 0 by omega, show bt * 65536 / 256 % 256 = 0 by omega, show bt * 65536 / 65536 % 256 = bt by omega, show bt * 65536 / 16777216 % 256 = 0 by omega, z, z, z]
    simp
  | 3, _ =>
    rw [show bt * 256 ^ 3 = bt * 16777216 by omega, show bt * 16777216 % 256 = 0 by omega, show bt * 16777216 / 256 % 256 = 0 by omega, show bt * 16777216 / 65536 % 256 = 0 by omega, show bt * 16777216 / 16777216 % 256 = bt by omega, z, z, z]
    simp
/-- A record's bytes with one byte turned are bad. -/
theorem get_flipped {r : Rc} (h : r.Ok) (n : Int) (bt : Nat) (h0 : bt ≠ 0) (hb : bt < 256) : getF (flipS r.bytes n bt) = (rc0, 2) := by
  have hs := bytes_size h
  have hl := enc_length h
  have hix : flipIx n r.bytes.size < r.bytes.size := Nat.mod_lt _ (by omega)
  refine get_closed (by rw [flipS_size]; omega) ?_
  obtain ⟨ix, hie⟩ : ∃ ix, ix = flipIx n r.bytes.size := ⟨_, rfl⟩
  have hfl : (flipS r.bytes n bt).data.toList = (sealN r.enc).set ix (flip8 ((sealN r.enc).getD ix 0) bt) := by
    unfold flipS
    rw [← hie, data_mk, bytes_list]
    congr 1
    unfold flip8
    apply UInt8.toNat.inj
    rw [UInt8.toNat_xor, UInt8.toNat_ofNat', UInt8.toNat_ofNat', Nat.mod_eq_of_lt hb, Nat.mod_eq_of_lt (xor_lt8 _ _ (UInt8.toNat_lt _) hb)]
  rw [hfl]
  rw [← hie] at hix
  have hsl := sealN_length r.enc
  by_cases h4 : ix < 4
  · have e := turn_byte (sealN r.enc) 0 ix bt (by omega) h4 hb
    rw [Nat.zero_add] at e
    rw [← e]
    refine opens_turned_sum r.enc _ ?_ ?_
    · exact Nat.mul_ne_zero h0 (Nat.ne_of_gt (Nat.pow_pos (show 0 < 256 by decide)))
    · have : 256 ^ ix ≤ 256 ^ 3 := Nat.pow_le_pow_right (by omega) (by omega)
      calc bt * 256 ^ ix ≤ 255 * 256 ^ 3 := Nat.mul_le_mul (by omega) this
        _ < 4294967296 := by decide
  · obtain ⟨q, c, hc, hq, hqc⟩ : ∃ q c, c < 4 ∧ q + 4 ≤ r.enc.length ∧ 4 + q + c = ix := by
      by_cases hh : ix + 4 ≤ (sealN r.enc).length
      · exact ⟨ix - 4, 0, by omega, by omega, by omega⟩
      · exact ⟨r.enc.length - 4, ix - r.enc.length, by omega, by omega, by omega⟩
    have e := turn_byte (sealN r.enc) (4 + q) c bt (by omega) hc hb
    rw [hqc] at e
    rw [← e]
    refine opens_turned_text r.enc q _ hq ?_ ?_
    · exact Nat.mul_ne_zero h0 (Nat.ne_of_gt (Nat.pow_pos (show 0 < 256 by decide)))
    · have : 256 ^ c ≤ 256 ^ 3 := Nat.pow_le_pow_right (by omega) (by omega)
      calc bt * 256 ^ c ≤ 255 * 256 ^ 3 := Nat.mul_le_mul (by omega) this
        _ < 4294967296 := by decide
end
section
open Go.RowKit
set_option linter.unusedVariables false
set_option maxRecDepth 100000

/-- A device whose blocks lie from n on; those of E are none of them. -/
def DevW (n : Nat) (E : Nat → Prop) (w : World) (B : Nat) (D : Dv) : Prop := ∃ S, DevAt S w B D ∧ (∀ k, S k → n ≤ k ∧ ¬ E k) ∧ ∀ k, E k → k < w.heap.size
/-- The blocks of E are as they were. -/
def Kept (E : Nat → Prop) (w w' : World) : Prop := ∀ k, E k → w'.heap[k]? = w.heap[k]?
theorem Kept.refl (E : Nat → Prop) (w : World) : Kept E w w := fun _ _ => rfl
theorem Kept.trans {E : Nat → Prop} {a w x : World} (h : Kept E a w) (k : Kept E w x) : Kept E a x := fun i hi => (k i hi).trans (h i hi)
theorem Kept.of_below {E : Nat → Prop} {w x : World} (hE : ∀ k, E k → k < w.heap.size) (h : Below w.heap.size w x) : Kept E w x := fun i hi => h.block i (hE i hi)
theorem Kept.mono {E F : Nat → Prop} {w x : World} (h : Kept E w x) (hF : ∀ k, F k → E k) : Kept F w x := fun i hi => h i (hF i hi)
theorem RecB.keep {E : Nat → Prop} {w w' : World} {b : Nat} {r : Rc} (h : RecB w b r) (k : Kept E w w') (hb : E b) : RecB w' b r := (k b hb).trans h

section
variable {n : Nat} {E : Nat → Prop} {w x : World} {B : Nat} {D : Dv}
theorem DevW.lt (h : DevW n E w B D) : ∀ k, E k → k < w.heap.size := by obtain ⟨S, _, _, h⟩ := h; exact h
theorem DevW.below (h : DevW n E w B D) (hb : Below w.heap.size w x) : DevW n E x B D := by
  obtain ⟨S, h, hS, hE⟩ := h
  exact ⟨S, h.below hb, hS, fun k hk => Nat.lt_of_lt_of_le (hE k hk) hb.size⟩
theorem DevW.drew (h : DevW n E w B D) : DevW n E w.drew B D := by
  obtain ⟨S, h, hS, hE⟩ := h
  exact ⟨S, h.drew, hS, hE⟩
/-- A block that has just been made joins those that the device leaves alone. -/
theorem DevW.alloc (h : DevW n E w B D) (o : Obj) : DevW n (fun k => E k ∨ k = w.heap.size) (w.alloc o) B D := by
  obtain ⟨S, h, hS, hE⟩ := h
  refine ⟨S, h.below ((Below.refl _ w).alloc (Nat.le_refl _) o), fun k hk => ⟨(hS k hk).1, fun e => e.elim (hS k hk).2 (fun e => ?_)⟩, fun k hk => ?_⟩
  · have := h.lt k hk; omega
  · rcases hk with hk | hk
    · have := hE k hk; simp; omega
    · subst hk; simp
theorem DevW.less {F : Nat → Prop} (h : DevW n E w B D) (hF : ∀ k, F k → E k) : DevW n F w B D := by
  obtain ⟨S, h, hS, hE⟩ := h
  exact ⟨S, h, fun k hk => ⟨(hS k hk).1, fun e => (hS k hk).2 (hF k e)⟩, fun k hk => hE k (hF k hk)⟩
theorem DevW.fits (h : DevW n E w B D) : D.Fits := by obtain ⟨S, h, _⟩ := h; exact h.fits
theorem devw_new (h : DevAt (span w.heap.size x.heap.size) x B D) (hn : n ≤ w.heap.size) (hE : ∀ k, E k → k < w.heap.size) (hs : w.heap.size ≤ x.heap.size) : DevW n E x B D :=
  ⟨_, h, fun k hk => ⟨Nat.le_trans hn hk.1, fun e => by have := hE k e; have := hk.1; omega⟩, fun k hk => Nat.lt_of_lt_of_le (hE k hk) hs⟩
theorem devw_mod {S : Nat → Prop} {D' : Dv} (hS : ∀ k, S k → n ≤ k ∧ ¬ E k) (hE : ∀ k, E k → k < w.heap.size) (hn : n ≤ w.heap.size) (h : DevTo S w B D' x) : DevW n E x B D' ∧ Below n w x ∧ Kept E w x := by
  obtain ⟨S', h', hS', hm⟩ := h
  refine ⟨⟨S', h', fun k hk => (hS' k hk).elim (hS k) (fun e => ⟨Nat.le_trans hn e, fun e' => by have := hE k e'; omega⟩), fun k hk => Nat.lt_of_lt_of_le (hE k hk) hm.size⟩, hm.toBelow (fun k hk => (hS k hk).1) hn, fun k hk => hm.block k (hE k hk) (fun e => (hS k e).2 hk)⟩
theorem devw_sread (i : Int) (ht : Tabs w) (hw : D.writes ≤ 1073741824) (h : DevW n E w B D) :
    Calls Tryd.prog 26 #[.pointer (some ⟨B, 0, none⟩), .int .i64 i] w fun e w' => e = .returned (sreadV (D.sread i)) ∧ Below w.heap.size w w' := by
  obtain ⟨S, h, hS, hE⟩ := h
  exact sread_any i h ht hw
theorem devw_swrite (i : Int) (r : Rc) (hn : n ≤ w.heap.size) (ht : Tabs w) (hw : D.writes ≤ 1073741824) (h : DevW n E w B D) :
    Calls Tryd.prog 77 #[.pointer (some ⟨B, 0, none⟩), .int .i64 i, recV r] w fun e w' => e = .returned (.int .i64 (D.swrite i r).1) ∧ DevW n E w' B (D.swrite i r).2 ∧ Below n w w' ∧ Kept E w w' := by
  obtain ⟨S, h, hS, hE⟩ := h
  refine (swrite_any i r h ht hw).mono ?_
  rintro e w' ⟨rfl, h'⟩
  exact ⟨rfl, devw_mod hS hE hn h'⟩
theorem devw_flush (hn : n ≤ w.heap.size) (hw : D.writes ≤ 1073741824) (h : DevW n E w B D) :
    Calls Tryd.prog 80 #[.pointer (some ⟨B, 0, none⟩)] w fun e w' => e = .returned (.int .i64 D.flush.1) ∧ DevW n E w' B D.flush.2 ∧ Below n w w' ∧ Kept E w w' := by
  obtain ⟨S, h, hS, hE⟩ := h
  refine (flush_any h (by omega)).mono ?_
  rintro e w' ⟨rfl, h', hm⟩
  exact ⟨rfl, devw_mod hS hE hn (h'.to hm)⟩
theorem devw_fall (i : Int) (hi : i ≤ 9223372036854775807) (hn : n ≤ w.heap.size) (h : DevW n E w B D) :
    Calls Tryd.prog 35 #[.pointer (some ⟨B, 0, none⟩), .int .i64 i] w fun e w' => e = .returned (.tuple #[]) ∧ DevW n E w' B (D.fall i) ∧ Below n w w' ∧ Kept E w w' := by
  obtain ⟨S, h, hS, hE⟩ := h
  refine (fall_any i hi h).mono ?_
  rintro e w' ⟨rfl, h', hm⟩
  exact ⟨rfl, devw_mod hS hE hn (h'.to hm)⟩
theorem devw_lose (i : Int) (hn : n ≤ w.heap.size) (h : DevW n E w B D) :
    Calls Tryd.prog 40 #[.pointer (some ⟨B, 0, none⟩), .int .i64 i] w fun e w' => e = .returned (.tuple #[]) ∧ DevW n E w' B (D.onB i Blk.lose) ∧ Below n w w' ∧ Kept E w w' := by
  obtain ⟨S, h, hS, hE⟩ := h
  refine (lose_any i h).mono ?_
  rintro e w' ⟨rfl, h', hm⟩
  exact ⟨rfl, devw_mod hS hE hn (h'.to hm)⟩
theorem devw_flip (i a : Int) (bt : Nat) (ha : -9223372036854775808 ≤ a ∧ a ≤ 9223372036854775807) (hbt : bt < 256) (hn : n ≤ w.heap.size) (h : DevW n E w B D) :
    Calls Tryd.prog 41 #[.pointer (some ⟨B, 0, none⟩), .int .i64 i, .int .i64 a, .int .u8 bt] w fun e w' => e = .returned (.tuple #[]) ∧ DevW n E w' B (D.onB i fun b => b.flip a bt) ∧ Below n w w' ∧ Kept E w w' := by
  obtain ⟨S, h, hS, hE⟩ := h
  refine (flip_any i a bt ha hbt h).mono ?_
  rintro e w' ⟨rfl, h', hm⟩
  exact ⟨rfl, devw_mod hS hE hn (h'.to hm)⟩
theorem devw_crash (fv : Value) (zs : List Int) (hw : D.writes ≤ 1073741824) (h : DevW n E w B D) (hz : Fts w fv zs) :
    Calls Tryd.prog 24 #[.pointer (some ⟨B, 0, none⟩), fv] w fun e w' => NewDev (D.crash zs) w e w' := by
  obtain ⟨S, h, hS, hE⟩ := h
  exact crash_any fv zs (by omega) h hz
end
theorem i64_and7 (n : Int) : bits .and .i64 n 7 = n % 8 := by
  have h127 : (BitVec.ofInt 64 7).toNat = 2 ^ 3 - 1 := by decide
  have key : (BitVec.ofInt 64 n &&& BitVec.ofInt 64 7).toNat = (n % ((2 ^ 64 : Nat) : Int)).toNat % 2 ^ 3 := by
    rw [BitVec.toNat_and, BitVec.toNat_ofInt, h127, Nat.and_two_pow_sub_one_eq_mod]
  show IntKind.i64.wrap ((BitVec.ofInt 64 n &&& BitVec.ofInt 64 7).toNat : Nat) = n % 8
  rw [key, IntKind.wrap_i64]
  omega
theorem i64_and1 (n : Int) : bits .and .i64 n 1 = n % 2 := by
  have h127 : (BitVec.ofInt 64 1).toNat = 2 ^ 1 - 1 := by decide
  have key : (BitVec.ofInt 64 n &&& BitVec.ofInt 64 1).toNat = (n % ((2 ^ 64 : Nat) : Int)).toNat % 2 ^ 1 := by
    rw [BitVec.toNat_and, BitVec.toNat_ofInt, h127, Nat.and_two_pow_sub_one_eq_mod]
  show IntKind.i64.wrap ((BitVec.ofInt 64 n &&& BitVec.ofInt 64 1).toNat : Nat) = n % 2
  rw [key, IntKind.wrap_i64]
  omega
theorem i64_and3 (n : Int) : bits .and .i64 n 3 = n % 4 := by
  have h127 : (BitVec.ofInt 64 3).toNat = 2 ^ 2 - 1 := by decide
  have key : (BitVec.ofInt 64 n &&& BitVec.ofInt 64 3).toNat = (n % ((2 ^ 64 : Nat) : Int)).toNat % 2 ^ 2 := by
    rw [BitVec.toNat_and, BitVec.toNat_ofInt, h127, Nat.and_two_pow_sub_one_eq_mod]
  show IntKind.i64.wrap ((BitVec.ofInt 64 n &&& BitVec.ofInt 64 3).toNat : Nat) = n % 4
  rw [key, IntKind.wrap_i64]
  omega
end
section
set_option linter.unusedVariables false
set_option maxRecDepth 100000

/-- A head. -/
structure Hd where
  term : Int
  vote : Int
  first : Int
  base : Int
def headV (h : Hd) : Value := .agg #[.int .i64 h.term, .int .i64 h.vote, .int .i64 h.first, .int .i64 h.base]
def hd0 : Hd := ⟨0, 0, 0, 0⟩
def hd1 : Hd := ⟨0, 0, 1, 0⟩
theorem Hd.ext' {a b : Hd} (h1 : a.term = b.term) (h2 : a.vote = b.vote) (h3 : a.first = b.first) (h4 : a.base = b.base) : a = b := by
  cases a; cases b; simp_all
/-- Its numbers are Go's. -/
structure Hd.Fits (h : Hd) : Prop where
  term : -9223372036854775808 ≤ h.term ∧ h.term ≤ 9223372036854775807
  vote : -9223372036854775808 ≤ h.vote ∧ h.vote ≤ 9223372036854775807
  first : -9223372036854775808 ≤ h.first ∧ h.first ≤ 9223372036854775807
  base : -9223372036854775808 ≤ h.base ∧ h.base ≤ 9223372036854775807
/-- It may be put. -/
structure Hd.Ok (h : Hd) : Prop where
  term : 0 ≤ h.term ∧ h.term ≤ 281474976710655
  vote : 0 ≤ h.vote ∧ h.vote ≤ 7
  first : 1 ≤ h.first ∧ h.first ≤ 281474976710655
  base : 0 ≤ h.base ∧ h.base ≤ 281474976710655
/-- The copy of a head that is put for the i-th time. -/
def copyR (h : Hd) (i : Int) : Rc := ⟨1, i, h.term, ⟨(numsE [h.vote, h.first, h.base]).toArray⟩⟩
def pa (t : List UInt8) : Int × RS := numF 6 7 (some t)
def pb (t : List UInt8) : Int × RS := numF 6 281474976710655 (pa t).2
def pc (t : List UInt8) : Int × RS := numF 6 281474976710655 (pb t).2
/-- What headOf answers. -/
def headF (r : Rc) : Hd × Bool :=
  if r.kind = 1 then (if doneF (pc r.data.data.toList).2 = 0 then (⟨r.term, (pa r.data.data.toList).1, (pb r.data.data.toList).1, (pc r.data.data.toList).1⟩, true) else (hd0, false)) else (hd0, false)
theorem headF_zero : headF rc0 = (hd0, false) := by unfold headF; rw [if_neg (show ¬ rc0.kind = 1 by decide)]
theorem numF_E' {z m : Int} (h : 0 ≤ z ∧ z ≤ m) (hm : m ≤ 281474976710655) (l : List UInt8) : numF 6 m (some (numE z ++ l)) = (z, some l) := by
  rw [numE_be ⟨h.1, Int.le_trans h.2 hm⟩, numF_be 6 z.toNat m l (by omega), if_pos (by omega)]
  rw [show ((z.toNat : Nat) : Int) = z by omega]
theorem headF_copy {h : Hd} (ho : h.Ok) (i : Int) : headF (copyR h i) = (h, true) := by
  have hd : (copyR h i).data.data.toList = numE h.vote ++ (numE h.first ++ (numE h.base ++ [])) := by
    unfold copyR
    rw [data_mk]
    simp [numsE]
  have a : pa (copyR h i).data.data.toList = (h.vote, some (numE h.first ++ (numE h.base ++ []))) := by unfold pa; rw [hd, numF_E' ho.vote (by decide)]
  have b : pb (copyR h i).data.data.toList = (h.first, some (numE h.base ++ [])) := by unfold pb; rw [a]; exact numF_E' ⟨by have := ho.first.1; omega, ho.first.2⟩ (by decide) _
  have c : pc (copyR h i).data.data.toList = (h.base, some []) := by unfold pc; rw [b]; exact numF_E' ho.base (by decide) _
  unfold headF
  rw [if_pos (show (copyR h i).kind = 1 from rfl), a, b, c, if_pos (show doneF (some []) = 0 from rfl)]
  rfl
theorem copy_size (h : Hd) (i : Int) : (copyR h i).data.size = 18 := by
  unfold copyR
  rw [size_mk, numsE_length]
  rfl
theorem copy_ok {h : Hd} (ho : h.Ok) {i : Int} (hi : 0 ≤ i ∧ i ≤ 281474976710655) : (copyR h i).Ok := ⟨⟨(show (0 : Int) ≤ 1 ∧ (1 : Int) ≤ 281474976710655 by decide), hi, ho.term⟩, by rw [copy_size]; decide⟩
theorem copy_ne (h : Hd) (i : Int) : copyR h i ≠ rc0 := fun e => by
  have := congrArg Rc.kind e
  simp [copyR, rc0] at this
theorem copy_inj {h k : Hd} (ho : h.Ok) (ko : k.Ok) {i j : Int} (e : copyR h i = copyR k j) : h = k ∧ i = j := by
  have h1 := headF_copy ho i
  rw [e, headF_copy ko j] at h1
  exact ⟨(Prod.mk.inj h1).1.symm, congrArg Rc.index e⟩

open Classical in
/-- Which copy is kept: L till now, r read. -/
noncomputable def pick (L r : Rc) : Rc := if (headF r).2 = true ∧ (L = rc0 ∨ L.index < r.index) then r else L
theorem pick_not {L r : Rc} (h : (headF r).2 = false) : pick L r = L := by unfold pick; rw [if_neg (by rw [h]; simp)]
theorem pick_new {r : Rc} (h : (headF r).2 = true) : pick rc0 r = r := by unfold pick; rw [if_pos ⟨h, .inl rfl⟩]
theorem pick_more {L r : Rc} (h : (headF r).2 = true) (hl : L.index < r.index) : pick L r = r := by unfold pick; rw [if_pos ⟨h, .inr hl⟩]
theorem pick_less {L r : Rc} (h0 : L ≠ rc0) (hl : r.index ≤ L.index) : pick L r = L := by unfold pick; rw [if_neg]; rintro ⟨_, h | h⟩; exact h0 h; omega
open Classical in
/-- What Open answers: the record that the store keeps, and the error. -/
noncomputable def Dv.hopen (D : Dv) : Rc × Int :=
  if (D.sread 0).2.2 = 0 then
    if (D.sread 1).2.2 = 0 then
      if pick (pick rc0 (D.sread 0).1) (D.sread 1).1 = rc0 ∧ (D.sread 1).2.1 ≠ 0 then (rc0, 6) else (pick (pick rc0 (D.sread 0).1) (D.sread 1).1, 0)
    else (rc0, (D.sread 1).2.2)
  else (rc0, (D.sread 0).2.2)
open Classical in
/-- What Head answers. -/
noncomputable def headL (L : Rc) : Hd := if L = rc0 then hd1 else (headF L).1
theorem headL_zero : headL rc0 = hd1 := by unfold headL; rw [if_pos rfl]
theorem headL_copy {h : Hd} (ho : h.Ok) (i : Int) : headL (copyR h i) = h := by unfold headL; rw [if_neg (copy_ne h i), headF_copy ho]

/-- What the writing of one copy answers: the error, and the device. -/
noncomputable def Dv.one (D : Dv) (b : Int) (r : Rc) : Int × Dv := if (D.swrite b r).1 = 0 then (D.swrite b r).2.flush else D.swrite b r
/-- What put answers: the error, and the device. -/
noncomputable def Dv.two (D : Dv) (f : Int) (r : Rc) : Int × Dv := if (D.one f r).1 = 0 then (D.one f r).2.one (1 - f) r else D.one f r
open Classical in
/-- What the store keeps behind put. -/
noncomputable def lastL (e : Int) (r L : Rc) : Rc := if e = 0 then r else L
end
end Go.Proofs.YtiknfifiglooeaaDoor
