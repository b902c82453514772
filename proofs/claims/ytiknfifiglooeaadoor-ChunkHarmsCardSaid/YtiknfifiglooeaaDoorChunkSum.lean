/- Rows of sums that grow within a region that draws its order. No conditions beyond those in each statement. -/
import Derived.Test.YtiknfifiglooeaaDoorChunkCut
import Derived.Test.YtiknfifiglooeaaDoorInvar5
import Derived.Deep.AppendLies
import Derived.Deep.RegionLawGrows
import Derived.ArgAppend
namespace Go.Proofs.YtiknfifiglooeaaDoor
open Go Go.RowKit Go.Proofs.Tryd
set_option linter.unusedVariables false
set_option maxRecDepth 100000

theorem und_sums : Tryd.prog.underlying 65 = some (.slice 70) := by kernel_rfl
theorem info_sum : (Tryd.prog.info? 70).map (fun i => (i.zero, i.size, i.bytes)) = some (some (.int .u32 0), 1, 4) := by kernel_rfl
def smCells (l : List Int) : List Value := l.map (Value.int .u32)
theorem smCells_length (l : List Int) : (smCells l).length = l.length := by simp [smCells]
theorem smCells_append (l m : List Int) : smCells (l ++ m) = smCells l ++ smCells m := by simp [smCells]
theorem World.ownsRow_below {w w' : World} {base : Nat} {e : TypeId} {size : Nat} {v : Value} {n : Nat} {xs : List Value} (h : w.ownsRow base e size v n xs) (hb : Below w.heap.size w w') : w'.ownsRow base e size v n xs :=
  ownsRow_same h (fun k hk => hb.block k (World.ownsRow.lt h k hk).2)
/-- All lies as it lay, but the row's own block, which may have become fin. -/
structure RowS (v : Value) (fin : Obj) (w w' : World) : Prop where
  os : w'.os = w.os
  tape : w'.tape = w.tape
  output : w'.output = w.output
  size : w.heap.size ≤ w'.heap.size
  block : ∀ k, k < w.heap.size → some k ≠ v.ownBlock → w'.heap[k]? = w.heap[k]?
  own : ∀ j, v.ownBlock = some j → w'.heap[j]? = w.heap[j]? ∨ w'.heap[j]? = some fin
theorem RowS.refl (v : Value) (fin : Obj) (w : World) : RowS v fin w w := ⟨rfl, rfl, rfl, Nat.le_refl _, fun _ _ _ => rfl, fun _ _ => .inl rfl⟩
theorem RowS.trans {v : Value} {fin : Obj} {a b c : World} (h : RowS v fin a b) (k : RowS v fin b c) : RowS v fin a c :=
  ⟨k.os.trans h.os, k.tape.trans h.tape, k.output.trans h.output, Nat.le_trans h.size k.size, fun j hj hne => (k.block j (Nat.lt_of_lt_of_le hj h.size) hne).trans (h.block j hj hne), fun j hj => (k.own j hj).elim (fun e => (h.own j hj).elim (fun f => .inl (e.trans f)) (fun f => .inr (e.trans f))) .inr⟩
theorem RowS.of_below {v : Value} {fin : Obj} {w w' : World} (h : Below w.heap.size w w') (hv : ∀ j, v.ownBlock = some j → j < w.heap.size) : RowS v fin w w' :=
  ⟨h.os, h.tape, h.output, h.size, fun k hk _ => h.block k hk, fun j hj => .inl (h.block j (hv j hj))⟩
theorem RowS.lies {v : Value} {fin : Obj} {w w' : World} {B : Nat} {o : Obj} (h : RowS v fin w w') (hb : w.heap[B]? = some o) (hne : some B ≠ v.ownBlock) : w'.heap[B]? = some o :=
  (h.block B (Array.getElem?_eq_some_iff.1 hb).1 hne).trans hb
theorem RowS.below {v : Value} {fin : Obj} {w w' : World} {m : Nat} (h : RowS v fin w w') (hm : m ≤ w.heap.size) (hv : ∀ j, v.ownBlock = some j → m ≤ j) : Below m w w' :=
  ⟨h.os, h.tape, h.output, h.size, fun k hk => h.block k (by omega) (fun e => by have := hv k e.symm; omega)⟩
/-- Behind the append. -/
def SmApp (base : Nat) (v : Value) (fin : Obj) (n : Nat) (olds : List Value) (z : Int) (v' : Value) (w : World) : Prop :=
  w.ownsRow base 70 1 v' (n + 1) (olds ++ [.int .u32 z]) ∧ ∀ j, v'.ownBlock = some j → v.ownBlock = some j → w.heap[j]? = some fin
theorem SmApp.keep {base : Nat} {v : Value} {fin : Obj} {n : Nat} {olds : List Value} {z : Int} {v' : Value} {w w' : World} (h : SmApp base v fin n olds z v' w) (hR : RowS v fin w w') : SmApp base v fin n olds z v' w' := by
  have hs : ∀ k, v'.ownBlock = some k → w'.heap[k]? = w.heap[k]? := by
    intro k hk
    by_cases hv : v.ownBlock = some k
    · rcases hR.own k hv with e | e
      · exact e
      · rw [e, h.2 k hk hv]
    · exact hR.block k (World.ownsRow.lt h.1 k hk).2 (fun e => hv e.symm)
  refine ⟨ownsRow_same h.1 hs, fun j h1 h2 => (hs j h1).trans (h.2 j h1 h2)⟩
/-- What the row's own block becomes, if there is room. -/
def IsFin (w0 : World) (v : Value) (n : Nat) (z : Int) (fin : Obj) : Prop := ∀ j cur, v.ownBlock = some j → w0.heap[j]? = some (.cells cur 70 (0, 0)) → fin = .cells (cur.setIfInBounds n (.int .u32 z)) 70 (0, 0)
theorem isFin {w0 : World} {base n : Nat} {v : Value} {olds : List Value} (z : Int) (hown : w0.ownsRow base 70 1 v n olds) : ∃ fin, IsFin w0 v n z fin := by
  rcases hown.2 with ⟨rfl, _⟩ | ⟨g, cap, cur, rfl, _, hg, _⟩
  · exact ⟨.deferred none, fun j cur h => by simp [Value.ownBlock] at h⟩
  · refine ⟨.cells (cur.setIfInBounds n (.int .u32 z)) 70 (0, 0), fun j cur' h h2 => ?_⟩
    obtain rfl : g = j := by simpa [Value.ownBlock] using h
    rw [hg] at h2
    cases h2
    rfl
section
variable {Q : Exit → Act → World → Prop} {l : List Oper}
theorem gstep_sums {i : Nat} {o : Oper} {a : Act} {w : World} {K : Act → World → Prop} (ho : l[i]? = some o) (hw : WantedIs l a o true) (hg : o.guard = none) (s x : Operand) (hop : o.op = .call { callee := .builtin .append, args := #[s, x], argTypes := #[65, 65] })
    (w0 : World) (base n : Nat) (v : Value) (olds : List Value) (hown : w0.ownsRow base 70 1 v n olds) (z : Int) (fin : Obj) (hfin : IsFin w0 v n z fin) (hR : RowS v fin w0 w) (hs : a.eval s = v) (gx : Nat) (hx : a.eval x = .slice (some ⟨gx, 0, none⟩) 1 1) (hgx : w.heap[gx]? = some (.cells #[.int .u32 z] 70 (0, 0)))
    (hn : n ≤ 1000000) (hbase : base ≤ w0.heap.size)
    (hK : ∀ v' w', SmApp base v fin n olds z v' w' → RowS v fin w w' → K (a.put o.dst v') w') : Step Tryd.prog l Q i K a w := by
  obtain ⟨i0, hi0, hz0, hz1, hz2⟩ := info_parts info_sum
  have hc : ∀ (j : Nat) (u : Value), ([.int .u32 z] : List Value)[j]? = some u → w.cell? (Addr.add ⟨gx, 0, none⟩ j) = some u := World.news_of_block (cs := #[.int .u32 z]) (t := 70) (fr := (0, 0)) hgx
  have h1c : ∀ u ∈ ([.int .u32 z] : List Value), u.oneCell' = true := by intro u hu; rw [List.mem_singleton.1 hu]; rfl
  have hlo := hown.1
  have grow : ∀ (ao : Option Addr) (cap : Nat), v = .slice ao n cap → (ao = none → n = 0 ∧ cap = 0) → (∀ b, ao = some b → ∀ j u, olds[j]? = some u → w.cell? (b.add j) = some u) → cap < n + 1 → (∀ j, v.ownBlock = some j → j < w.heap.size) → Step Tryd.prog l Q i K a w := by
    intro ao cap hv hnone holds hfull hvl
    refine ⟨?_⟩
    unfold wpOp
    rw [show l.toArray[i]? = some o by simpa using ho]
    have h := step_append_grows (ops := l.toArray) (Q := Q) (E := True) (K := K) hg s x _ hop 70 i0 _ 1 4 und_sums hi0 hz0 hz1 hz2 rfl (by decide) ao n cap olds (hs.trans hv) hnone hlo holds ⟨gx, 0, none⟩ 1 1 [.int .u32 z] hx rfl hc h1c hfull (by unfold maxLen; omega) (by omega)
      (fun v' w' hown' hgrow => by
        have hb : Below w.heap.size w w' := (Below.refl _ w).grown hgrow (Nat.le_refl _) (fun j hj => by cases hj)
        refine hK v' w' ⟨⟨hown'.1, hown'.2.imp id (fun ⟨g, cp, cur, e1, e2, e3⟩ => ⟨g, cp, cur, e1, Nat.le_trans (Nat.le_trans hbase hR.size) e2, e3⟩)⟩, fun j h1 h2 => ?_⟩ (RowS.of_below hb hvl)
        have := (World.ownsRow.lt hown' j h1).1
        have := hvl j h2
        omega)
    have hw' : Region.wanted o (yielded l.toArray a.tmps) = true := hw
    rw [if_pos hw'] at h
    show (if Region.wanted o (yielded l.toArray a.tmps) = true then _ else _)
    rw [if_pos hw']
    exact .inl h
  rcases hown.2 with ⟨hv, h0⟩ | ⟨g, cap, cur, hv, hbg, hg0, hnc, hcm, hcs, htk⟩
  · subst h0
    have : olds = [] := List.eq_nil_of_length_eq_zero (by simpa using hlo)
    subst this
    exact grow none 0 hv (fun _ => ⟨rfl, rfl⟩) (fun b hb => by cases hb) (by omega) (fun j hj => by rw [hv] at hj; simp [Value.ownBlock] at hj)
  · have hvo : v.ownBlock = some g := by rw [hv]; rfl
    have hgl : g < w0.heap.size := lt_of_block hg0
    have hfe := hfin g cur hvo hg0
    have hcl : cur.size = cap := by simpa using hcs
    obtain ⟨cu, hcu, hcusz, hcut, hcuset⟩ : ∃ cu : Array Value, w.heap[g]? = some (.cells cu 70 (0, 0)) ∧ cu.size = cap ∧ cu.toList.take n = olds ∧ cu.setIfInBounds n (.int .u32 z) = cur.setIfInBounds n (.int .u32 z) := by
      rcases hR.own g hvo with e | e
      · exact ⟨cur, e.trans hg0, hcl, by simpa using htk, rfl⟩
      · rw [hfe] at e
        refine ⟨_, e, by simpa using hcl, ?_, by simp⟩
        rw [Array.toList_setIfInBounds, List.take_set_of_le (Nat.le_refl n)]
        simpa using htk
    by_cases hroom : n + 1 ≤ cap
    · have hrun := run_append_room_cells (P := Tryd.prog) w 65 o.type 70 i0 und_sums hi0 g 0 n cap ⟨gx, 0, none⟩ 1 1 [.int .u32 z] (by rw [hz1]; rfl) hc h1c hroom
        (fun j hj => by
          have hj0 : j = 0 := by simpa using hj
          subst hj0
          rw [hz1]
          simp [World.cell?, hcu, show n < cu.size by omega])
        (fun j hj => by
          rw [hz1]
          simp [World.frozen?, hcu])
      rw [hz1, Nat.zero_add, Nat.mul_one] at hrun
      have hset : w.setCells g n [.int .u32 z] = w.setCell ⟨g, n, none⟩ (.int .u32 z) := rfl
      rw [hset] at hrun
      have hblk : (w.setCell ⟨g, n, none⟩ (.int .u32 z)).heap[g]? = some fin := by
        rw [block_setCell hcu, hfe, hcuset]
      refine gstep_value ho hw _ _ (by simp [execOp, hop, resolve, invoke, builtin, hs, hv, hx, hrun, Result.andThen]; exact ⟨rfl, rfl⟩) ?_
      refine hK _ _ ⟨⟨by simp [hlo], .inr ⟨g, cap, _, rfl, hbg, hblk.trans (by rw [hfe]), hroom, hcm, by simpa using hcl, ?_⟩⟩, fun j h1 h2 => ?_⟩ ⟨rfl, rfl, rfl, by simp, fun k hk hne => block_setCell_other (fun e => hne (by rw [hvo, e])), fun j hj => ?_⟩
      · have htk' : cur.toList.take n = olds := by simpa using htk
        rw [Array.toList_setIfInBounds, Nat.mul_one, List.take_succ_eq_append_getElem (by simp; omega), List.take_set_of_le (Nat.le_refl n), htk']
        simp
      · obtain rfl : g = j := by rw [hvo] at h2; exact Option.some.inj h2
        exact hblk
      · obtain rfl : g = j := by rw [hvo] at hj; exact Option.some.inj hj
        exact .inr hblk
    · refine grow (some ⟨g, 0, none⟩) cap hv (fun e => by cases e) (fun b hb j u hu => ?_) (by omega) (fun j hj => by rw [hvo] at hj; cases hj; exact Nat.lt_of_lt_of_le hgl hR.size)
      obtain rfl := Option.some.inj hb
      rw [show (Addr.add ⟨g, 0, none⟩ j : Addr) = ⟨g, j, none⟩ by simp [Addr.add]; omega]
      simp only [World.cell?, hcu]
      rw [← hcut] at hu
      have hj : j < n := by
        have := (List.getElem?_eq_some_iff.1 hu).1
        simp at this
        omega
      rw [List.getElem?_take_of_lt hj] at hu
      simpa using hu
end
end Go.Proofs.YtiknfifiglooeaaDoor
