/- The fate of a write; the library's iterator over a slice from its end, at a slice of writes. No conditions beyond those in each statement. A block behind a power failure; no conditions beyond those in each statement. Crash: the device behind a power failure; no conditions beyond those in each statement. A device alone among what a call has made; the document's example (head). No conditions beyond those in each statement. -/
import Derived.Test.YtiknfifiglooeaaDoorDevWrite
import Derived.RangeFuncNested
import Derived.RangeFuncBound
import Derived.RangeFuncCalls
import Derived.RangeFuncLeaves
import Derived.Shelf.Abstract
import Derived.Shelf.RegionOpen
import Derived.WalkKit
import Derived.OwnWalkIn
import Derived.TacticsInMore
import Derived.LoopNIn
import Derived.LoopIn
import Derived.BigFrameIn
namespace Go.Proofs.YtiknfifiglooeaaDoor
section
open Go.RowKit Go.Shelf
set_option linter.unusedVariables false
set_option maxRecDepth 100000

/-- A slice of fates that can be read: zs. -/
def Fts (w : World) (v : Value) (zs : List Int) : Prop :=
  ∃ a cap, v = .slice a zs.length cap ∧ zs.length ≤ maxLen ∧ (zs.length = 0 ∨ ∃ g off, a = some ⟨g, off, none⟩ ∧ g < w.heap.size ∧ ∀ j, j < zs.length → w.cell? ⟨g, off + j, none⟩ = some (.int .i64 (zs.getD j 0)))
theorem Fts.below {w x : World} {v : Value} {zs : List Int} (h : Fts w v zs) (hb : Below w.heap.size w x) : Fts x v zs := by
  obtain ⟨a, cap, hv, hm, h⟩ := h
  refine ⟨a, cap, hv, hm, h.imp id ?_⟩
  rintro ⟨g, off, ha, hg, hc⟩
  exact ⟨g, off, ha, Nat.lt_of_lt_of_le hg hb.size, fun j hj => (hb.cell (p := ⟨g, off + j, none⟩) hg).trans (hc j hj)⟩

/-- The i-th write's fate: the missing ones are Lost. -/
def fateF (zs : List Int) (i : Nat) : Int := zs.getD i 0

theorem fateOf_any (p : Nat) (s : ByteArray) (v : Value) (zs : List Int) (w : World) (h : Fts w v zs) :
    Calls Tryd.prog 102 #[.agg #[.int .i64 p, .string s], v] w fun e w' => e = .returned (.int .i64 (fateF zs p)) ∧ Below w.heap.size w w' := by
  obtain ⟨a, cap, rfl, hm, h⟩ := h
  unfold maxLen at hm
  by_cases hp : p < zs.length
  · rcases h with h | ⟨g, off, rfl, hg, hc⟩
    · omega
    · have hcell := hc p hp
      have e0 : fateF zs p = zs.getD p 0 := rfl
      rw [e0]
      generalize zs.getD p 0 = z at *
      clear hc e0
      have hlt : ∀ o, (w.alloc o).cell? ⟨g, off + p, none⟩ = some (.int .i64 z) := fun o => ((Below.refl w.heap.size w).alloc (Nat.le_refl _) o).cell (p := ⟨g, off + p, none⟩) hg |>.trans hcell
      have h2 := hlt (.cells #[.int .i64 p, .string s] 167)
      clear hlt
      go_enter Tryd.func102, Tryd.ntmps102
      go_wp2
      go_ret
      exact ⟨rfl, (Below.refl _ _).alloc (Nat.le_refl _) _⟩
  · have e0 : fateF zs p = 0 := by simp [fateF, List.getD_eq_getElem?_getD, List.getElem?_eq_none (by omega : zs.length ≤ p)]
    rw [e0]
    clear e0 h
    go_enter Tryd.func102, Tryd.ntmps102
    go_wp2
    go_ret
    exact ⟨rfl, (Below.refl _ _).alloc (Nat.le_refl _) _⟩

/-- What the iterator hands on: an index, and the write there. -/
abbrev Wn := { x : Nat × Wr // x.2.data.size ≤ 512 }
def encW (x : Wn) : Array Value := #[.int .i64 (x.1.1 : Int), .agg #[.int .i64 (x.1.2.place : Int), .string x.1.2.data]]
/-- From the end: the writes at n - 1, .., 0. -/
def back (f : Nat → Wn) (n k : Nat) : List Wn := (List.range k).map fun j => f (n - 1 - j)
theorem back_succ (f : Nat → Wn) (n k : Nat) : back f n (k + 1) = back f n k ++ [f (n - 1 - k)] := by simp [back, List.range_succ]
theorem back_length (f : Nat → Wn) (n k : Nat) : (back f n k).length = k := by simp [back]

set_option maxRecDepth 100000 in
set_option maxHeartbeats 2000000 in
theorem back1_in (F : Fence) (n : Nat) (hf : F.fn 118) (hro : F.round = none) (hn : 1 ≤ n) (l Bs n₀ g len cap : Nat) (f : Nat → Wn) (hlen : len ≤ 4611686018427387904) (hg : g < n₀) (hBs0 : Bs < n₀) (J Jx : List Wn → World → Prop)
    (hfi : ∀ j, j < len → (f j).1.1 = j)
    (hY : ∀ pre x W, J pre W → pre.length < len → YieldAt F (n - 1) Tryd.prog l (encW x) W fun e W' =>
      (e = .returned (.bool true) ∧ J (pre ++ [x]) W' ∧ Below n₀ W W') ∨ (e = .returned (.bool false) ∧ Jx (pre ++ [x]) W'))
    (W : World) (hBs : W.cell? ⟨Bs, 0, none⟩ = some (.slice (some ⟨g, 0, none⟩) len cap))
    (hc : ∀ j, j < len → W.cell? ⟨g, j * 2, none⟩ = some (.int .i64 ((f j).1.2.place : Int)) ∧ W.cell? ⟨g, j * 2 + 1, none⟩ = some (.string (f j).1.2.data)) (h0 : J [] W) :
    CallsIn F n Tryd.prog 118 #[.func (.yield l) #[] #[], .pointer (some ⟨Bs, 0, none⟩)] W fun e W' => (∃ v, e = .returned v) ∧
      ((∃ ys, ys = back f len len ∧ J ys W') ∨ (∃ pre, (∃ k, k ≤ len ∧ pre = back f len k) ∧ Jx pre W')) := by
  refine callsIn_of_wp Tryd.func118 rfl hf ?_ hro
  simp only [Tryd.ntmps118, List.size_toArray, List.length_cons, List.length_nil, Nat.reduceAdd, Nat.reduceSub, Array.replicate_succ, Array.replicate_zero, List.push_toArray, List.append_toArray, List.nil_append, List.cons_append]
  gi_wp2
  gi_loopw [3] (fun i wr => ∃ k : Nat, k ≤ len ∧ i = .int .i64 ((len : Int) - 1 - k) ∧ J (back f len k) wr ∧ Below n₀ W wr)
    (fun i _ => (intOf i + 1).toNat)
  case atStart => exact ⟨0, Nat.zero_le _, by simp, h0, Below.refl _ _⟩
  case round =>
    obtain ⟨k, hk, rfl, hJs, hnx⟩ := hrel
    have hbs := (hnx.cell (p := ⟨Bs, 0, none⟩) hBs0).trans hBs
    by_cases hlt : k < len
    · obtain ⟨m, hm⟩ : ∃ m, m = len - 1 - k := ⟨_, rfl⟩
      have hml : m < len := by omega
      have e1 : (len : Int) - 1 - k = (m : Int) := by omega
      rw [e1]
      have hx0 := (hnx.cell (p := ⟨g, m * 2, none⟩) hg).trans (hc m hml).1
      have hx1 := (hnx.cell (p := ⟨g, m * 2 + 1, none⟩) hg).trans (hc m hml).2
      obtain ⟨fn, tmps, assign, body, hy, hR⟩ := hY _ (f m) wr hJs (by rw [back_length]; exact hlt)
      simp only [encW] at hy
      rw [hfi m hml] at hy
      have hbk : back f len (k + 1) = back f len k ++ [f m] := by rw [back_succ, ← hm]
      have HBK := Lib.hid hbk
      have HM := Lib.hid hm
      clear hbk hm e1
      gi_wp2
      refine hR.mono ?_
      rintro e W3 (⟨rfl, hJ3, hk3⟩ | ⟨rfl, hJx3⟩)
      · gi_wp2
        go_roundw
        case rel => exact ⟨k + 1, by omega, by have := HM.out; congr 1; omega, by rw [HBK.out]; exact hJ3, hnx.trans hk3⟩
        case measure => simp [intOf]
      · gi_wp2
        refine bodyPost_ret (results_none rfl _ _ _) rfl ?_
        exact ⟨⟨_, rfl⟩, .inr ⟨_, ⟨k + 1, by omega, HBK.out.symm⟩, hJx3⟩⟩
    · obtain rfl : k = len := by omega
      gi_wp2
      go_end0
      exact ⟨⟨_, rfl⟩, .inl ⟨_, rfl, hJs⟩⟩

set_option maxRecDepth 100000 in
set_option maxHeartbeats 1000000 in
/-- .. at a slice without writes. -/
theorem back1_nil_in (F : Fence) (n : Nat) (hf : F.fn 118) (hro : F.round = none) (l Bs cap : Nat) (a : Option Addr) (J : List Wn → World → Prop) (W : World) (hBs : W.cell? ⟨Bs, 0, none⟩ = some (.slice a 0 cap)) (h0 : J [] W) :
    CallsIn F n Tryd.prog 118 #[.func (.yield l) #[] #[], .pointer (some ⟨Bs, 0, none⟩)] W fun e W' => (∃ v, e = .returned v) ∧ J [] W' := by
  refine callsIn_of_wp Tryd.func118 rfl hf ?_ hro
  simp only [Tryd.ntmps118, List.size_toArray, List.length_cons, List.length_nil, Nat.reduceAdd, Nat.reduceSub, Array.replicate_succ, Array.replicate_zero, List.push_toArray, List.append_toArray, List.nil_append, List.cons_append]
  gi_wp2
  gi_loopw [3] (fun i wr => i = .int .i64 (-1) ∧ J [] wr) (fun _ _ => 0)
  case atStart => exact ⟨rfl, h0⟩
  case round =>
    obtain ⟨rfl, hJs⟩ := hrel
    gi_wp2
    go_end0
    exact ⟨⟨_, rfl⟩, hJs⟩

set_option maxHeartbeats 1000000 in
/-- slices.Backward(s): the slice is boxed; the function value captures the box. -/
theorem back_in (F : Fence) (n : Nat) (hf : F.fn 101) (hro : F.round = none) (a : Option Addr) (len cap : Nat) (w : World) :
    CallsIn F n Tryd.prog 101 #[.slice a len cap] w fun e w' => e = .returned (.func (.func 118) #[] #[.pointer (some ⟨w.heap.size, 0, none⟩)]) ∧ w' = w.alloc (.cells #[.slice a len cap] 131) := by
  refine callsIn_of_wp Tryd.func101 rfl hf ?_ hro
  simp only [Tryd.ntmps101, List.size_toArray, List.length_cons, List.length_nil, Nat.reduceAdd, Nat.reduceSub, Array.replicate_succ, Array.replicate_zero, List.push_toArray, List.append_toArray, List.nil_append, List.cons_append]
  gi_wp2
  go_ret
  exact ⟨rfl, rfl⟩

/-- The writes of a list, each with its index. -/
def wn0 : Wn := ⟨(0, ⟨0, ⟨#[]⟩⟩), Nat.zero_le _⟩
def wnAt (ps : List Wr) (hs : ∀ p ∈ ps, p.data.size ≤ 512) (j : Nat) : Wn :=
  if h : j < ps.length then ⟨(j, ps[j]), hs _ (List.getElem_mem h)⟩ else wn0
theorem wnAt_eq {ps : List Wr} {hs : ∀ p ∈ ps, p.data.size ≤ 512} {j : Nat} (h : j < ps.length) : (wnAt ps hs j).1 = (j, ps[j]) := by simp [wnAt, h]

/-- slices.Backward(s) hands back a value that goes through the writes from the end. -/
theorem back_stops (F : Fence) (n : Nat) (hf : F.fn 118) (hro : F.round = none) (hn : 1 ≤ n) (Bs n₀ : Nat) (sv : Value) (ps : List Wr) (hs : ∀ p ∈ ps, p.data.size ≤ 512) (hlen : ps.length ≤ 4611686018427387904) (w : World) (hBs : Bs < n₀) (hn₀ : n₀ ≤ w.heap.size)
    (hc : w.cell? ⟨Bs, 0, none⟩ = some sv) (hI : w.ownsRow 0 167 2 sv ps.length (wrCells ps)) (hg : ∀ k, sv.ownBlock = some k → k < n₀) :
    SeqStopsK F n Tryd.prog 118 #[.pointer (some ⟨Bs, 0, none⟩)] encW (Below n₀) (fun ys => ys = back (wnAt ps hs) ps.length ps.length)
      (fun pre => ∃ k, k ≤ ps.length ∧ pre = back (wnAt ps hs) ps.length k) ps.length w := fun l J Jx W hW _ _ hY h0 => by
  have hc' := (hW.cell (p := ⟨Bs, 0, none⟩) (Nat.lt_of_lt_of_le hBs hn₀)).trans hc
  have hI' : W.ownsRow 0 167 2 sv ps.length (wrCells ps) := ownsRow_same hI (fun k hk => hW.block k (Nat.lt_of_lt_of_le (hg k hk) hn₀))
  by_cases hz : ps.length = 0
  · obtain rfl : ps = [] := List.eq_nil_of_length_eq_zero hz
    obtain ⟨a, cap, rfl⟩ := slice_of hI'
    exact (back1_nil_in F n hf hro l Bs cap a J W hc' h0).mono fun e W' ⟨he, hj⟩ => ⟨he, .inl ⟨_, rfl, hj⟩⟩
  · rcases row_of hI' with ⟨rfl, h⟩ | ⟨g, cap, rfl, hgl, _, _, hcell⟩
    · exact absurd (by rw [h]; rfl) hz
    · refine (back1_in F n hf hro hn l Bs n₀ g ps.length cap (wnAt ps hs) hlen (hg g rfl) hBs J Jx (fun j hj => by rw [wnAt_eq hj]) hY W hc' (fun j hj => ?_) h0).mono fun e W' h => h
      rw [wnAt_eq hj]
      exact hcell j _ (List.getElem?_eq_getElem hj)
end
section
open Go.RowKit Go.Shelf
set_option linter.unusedVariables false
set_option maxRecDepth 100000
attribute [local go_sem] Oper.semAt_some

/-- What a write of a fate leaves, if it has an effect. -/
def oneHit (zs : List Int) (b : Blk) (p : Wr) : Option Blk :=
  if fateF zs p.place = 1 then some ⟨p.data, false, b.lost, []⟩ else if fateF zs p.place = 2 then some ⟨p.data.extract 0 (p.data.size / 2), true, b.lost, []⟩ else none
/-- A block behind a power failure: of the writes, from the end, the first that had an effect decides. -/
def Blk.crash (zs : List Int) (b : Blk) : Blk := (b.pending.reverse.findSome? (oneHit zs b)).getD ⟨b.durable, b.spoiled, b.lost, []⟩
def blkCells (b : Blk) : Array Value := #[.string b.durable, .bool b.spoiled, .bool b.lost, .slice none 0 0]

/-- A block of memory known whole. -/
def Whole (W : World) (B : Nat) (t : TypeId) (vs : Array Value) : Prop := W.heap[B]? = some (.cells vs t (0, 0))
theorem Whole.lt {W : World} {B : Nat} {t : TypeId} {vs : Array Value} (h : Whole W B t vs) : B < W.heap.size := lt_of_block h
theorem Whole.cell {W : World} {B i : Nat} {t : TypeId} {vs : Array Value} {u : Value} (h : Whole W B t vs) (hu : vs[i]? = some u) : W.cell? ⟨B, i, none⟩ = some u := cell_of h hu
theorem Whole.free {W : World} {B : Nat} {t : TypeId} {vs : Array Value} (h : Whole W B t vs) (i : Nat) : W.frozen? ⟨B, i, none⟩ = false := free_of h
theorem Whole.new (W : World) (t : TypeId) (vs : Array Value) : Whole (W.alloc (.cells vs t)) W.heap.size t vs := World.alloc_heap_new W _
theorem Whole.alloc {W : World} {B : Nat} {t : TypeId} {vs : Array Value} (h : Whole W B t vs) (o : Obj) : Whole (W.alloc o) B t vs := (Below.heap_alloc W o B h.lt).trans h
theorem Whole.below {W X : World} {B : Nat} {t : TypeId} {vs : Array Value} (h : Whole W B t vs) (hb : Below W.heap.size W X) : Whole X B t vs := (hb.block B h.lt).trans h
theorem whole_own {β : Type} (B : Nat) (t : TypeId) (vs : β → Array Value) : Own (fun s W => Whole W B t (vs s)) := by
  intro s X Y row h hg hrow
  refine (hg.block B h.lt (fun e => ?_)).trans h
  obtain ⟨o, ho, hc⟩ := hrow B e.symm
  rw [show X.heap[B]? = _ from h] at ho
  cases ho
  cases hc

theorem Whole.set {W : World} {B : Nat} {t : TypeId} {vs : Array Value} (h : Whole W B t vs) (i : Nat) (u : Value) : Whole (W.setCell ⟨B, i, none⟩ u) B t (vs.setIfInBounds i u) := block_setCell h
theorem Whole.other {W : World} {B k : Nat} {t : TypeId} {vs : Array Value} (h : Whole W B t vs) (hne : B ≠ k) (i : Nat) (u : Value) : Whole (W.setCell ⟨k, i, none⟩ u) B t vs := (block_setCell_other hne).trans h
theorem ownFrom_size {β : Type} (B n : Nat) : OwnFrom B (fun (_ : β) W => n ≤ W.heap.size) := fun _ _ _ _ hs hg _ => Nat.le_trans hs hg.size
theorem keeps_below {W X : World} (h : Below W.heap.size W X) (B : Nat) : KeepsFrom B W X := ⟨h.size, fun k o _ hk _ => (h.block k (lt_of_block hk)).trans hk⟩
/-- The steps of a round that leaves: what is stored into the block at O, and from there into the block at R. -/
def left2 (W : World) (O R : Nat) (r : Blk) : World :=
  (((((W.setCell ⟨O, 0, none⟩ (.string r.durable)).setCell ⟨O, 1, none⟩ (.bool r.spoiled)).setCell ⟨R, 0, none⟩ (.string r.durable)).setCell ⟨R, 1, none⟩ (.bool r.spoiled)).setCell ⟨R, 2, none⟩ (.bool r.lost)).setCell ⟨R, 3, none⟩ (.slice none 0 0)
def left1 (W : World) (R : Nat) (r : Blk) : World :=
  (((W.setCell ⟨R, 0, none⟩ (.string r.durable)).setCell ⟨R, 1, none⟩ (.bool r.spoiled)).setCell ⟨R, 2, none⟩ (.bool r.lost)).setCell ⟨R, 3, none⟩ (.slice none 0 0)
theorem left1_whole {W : World} {R : Nat} {t : TypeId} {v0 v1 v2 v3 : Value} (r : Blk) (h : Whole W R t #[v0, v1, v2, v3]) : Whole (left1 W R r) R t (blkCells r) := (((h.set 0 _).set 1 _).set 2 _).set 3 _
theorem left2_whole {W : World} {O R : Nat} {t : TypeId} {v0 v1 v2 v3 : Value} (r : Blk) (h : Whole W R t #[v0, v1, v2, v3]) (hne : R ≠ O) : Whole (left2 W O R r) R t (blkCells r) := left1_whole r ((h.other hne 0 _).other hne 1 _)
theorem left1_below {a W : World} {B R : Nat} (r : Blk) (h : Below B a W) (hR : B ≤ R) : Below B a (left1 W R r) :=
  (((h.setCell (p := ⟨R, 0, none⟩) hR _).setCell (p := ⟨R, 1, none⟩) hR _).setCell (p := ⟨R, 2, none⟩) hR _).setCell (p := ⟨R, 3, none⟩) hR _
theorem left2_below {a W : World} {B O R : Nat} (r : Blk) (h : Below B a W) (hO : B ≤ O) (hR : B ≤ R) : Below B a (left2 W O R r) :=
  left1_below r ((h.setCell (p := ⟨O, 0, none⟩) hO _).setCell (p := ⟨O, 1, none⟩) hO _) hR
theorem left1_keeps (W : World) (R : Nat) (r : Blk) : KeepsOthers W (left1 W R r) :=
  (((KeepsOthers.setCell W _ _).trans (KeepsOthers.setCell _ _ _)).trans (KeepsOthers.setCell _ _ _)).trans (KeepsOthers.setCell _ _ _)
theorem left2_keeps (W : World) (O R : Nat) (r : Blk) : KeepsOthers W (left2 W O R r) :=
  ((KeepsOthers.setCell W _ _).trans (KeepsOthers.setCell _ _ _)).trans (left1_keeps _ R r)

theorem crash_none (zs : List Int) (b : Blk) (hs : ∀ p ∈ b.pending, p.data.size ≤ 512) (h : ∀ x ∈ back (wnAt b.pending hs) b.pending.length b.pending.length, oneHit zs b x.1.2 = none) : b.crash zs = ⟨b.durable, b.spoiled, b.lost, []⟩ := by
  have : b.pending.reverse.findSome? (oneHit zs b) = none := by
    rw [List.findSome?_eq_none_iff]
    intro p hp
    obtain ⟨j, hj, he⟩ := List.mem_iff_getElem.1 (List.mem_reverse.1 hp)
    have := h (wnAt b.pending hs j) (by simp only [back, List.mem_map, List.mem_range]; exact ⟨b.pending.length - 1 - j, by omega, by congr 1; omega⟩)
    rw [wnAt_eq hj] at this
    rw [← he]
    exact this
  simp [Blk.crash, this]
theorem crash_some (zs : List Int) (b r : Blk) (hs : ∀ p ∈ b.pending, p.data.size ≤ 512) (k : Nat) (hk : k ≤ b.pending.length) (ini : List Wn) (last : Wn) (e : back (wnAt b.pending hs) b.pending.length k = ini ++ [last])
    (hi : ∀ x ∈ ini, oneHit zs b x.1.2 = none) (hl : oneHit zs b last.1.2 = some r) : b.crash zs = r := by
  have hrev : b.pending.reverse = (ini.map fun x => x.1.2) ++ last.1.2 :: b.pending.reverse.drop k := by
    have e1 : (back (wnAt b.pending hs) b.pending.length k).map (fun x => x.1.2) = b.pending.reverse.take k := by
      apply List.ext_getElem
      · simp [back]; omega
      · intro j h1 h2
        have hj : j < k := by simpa [back] using h1
        simp only [back, List.map_map, List.getElem_map, List.getElem_range, List.getElem_take, List.getElem_reverse, Function.comp]
        rw [wnAt_eq (by omega)]
    rw [e] at e1
    have := List.take_append_drop k b.pending.reverse
    rw [← e1] at this
    exact this.symm.trans (by simp)
  have : b.pending.reverse.findSome? (oneHit zs b) = some r := by
    rw [hrev, List.findSome?_append]
    have h0 : (ini.map fun x => x.1.2).findSome? (oneHit zs b) = none := by
      rw [List.findSome?_eq_none_iff]
      intro p hp
      obtain ⟨x, hx, rfl⟩ := List.mem_map.1 hp
      exact hi x hx
    rw [h0]
    simp [hl]
  simp [Blk.crash, this]

/-- The result of a block by value, out of its cells. -/
theorem results_cell4 {tmps : Array Value} {W : World} {R : Nat} {r : Blk} (ht : tmps.getD 4 undef = .pointer (some ⟨R, 0, none⟩)) (h : Whole W R 133 (blkCells r)) :
    (results Tryd.f68 tmps).run Tryd.prog W = .ok (blkV r (.slice none 0 0)) W := by
  have c0 : W.cell? ⟨R, 0, none⟩ = some (.string r.durable) := h.cell rfl
  have c1 : W.cell? ⟨R, 1, none⟩ = some (.bool r.spoiled) := h.cell rfl
  have c2 : W.cell? ⟨R, 2, none⟩ = some (.bool r.lost) := h.cell rfl
  have c3 : W.cell? ⟨R, 3, none⟩ = some (.slice none 0 0) := h.cell rfl
  rw [Array.getD_eq_getD_getElem?] at ht
  simp [results, Tryd.f68, go_sem, ht, c0, c1, c2, c3]

set_option maxRecDepth 100000 in
set_option maxHeartbeats 4000000 in
theorem blkcrash_in (b : Blk) (v fv : Value) (zs : List Int) (w : World) (hp : ∀ p ∈ b.pending, p.data.size ≤ 512) (hc : b.pending.length ≤ 4611686018427387904)
    (h : w.ownsRow 0 167 2 v b.pending.length (wrCells b.pending)) (hz : Fts w fv zs) :
    CallsIn Fence.wide 6 Tryd.prog 68 #[blkV b v, fv] w fun e w' => e = .returned (blkV (b.crash zs) (.slice none 0 0)) ∧ Below w.heap.size w w' := by
  obtain ⟨a, cap, rfl⟩ := slice_of h
  obtain ⟨fa, fcap, rfl⟩ : ∃ fa fcap, fv = .slice fa zs.length fcap := by obtain ⟨fa, fcap, h, _⟩ := hz; exact ⟨fa, fcap, h⟩
  have hro : Fence.wide.round = none := rfl
  refine callsIn_of_wp_marks Tryd.func68 rfl trivial ?_ hro
  simp only [Tryd.ntmps68, List.size_toArray, List.length_cons, List.length_nil, Nat.reduceAdd, Nat.reduceSub, Array.replicate_succ, Array.replicate_zero, List.push_toArray, List.append_toArray, List.nil_append, List.cons_append]
  gi_wp2_with (refine ⟨trivial, ?_⟩; gi_at_call 101; refine (back_in Fence.wide _ trivial rfl _ _ _ _).mono ?_; rintro e w' ⟨rfl, rfl⟩)
  have hlw : ∀ k, (Value.slice a b.pending.length cap).ownBlock = some k → k < w.heap.size := fun k e => by obtain ⟨cur, hc⟩ := ownsRow_block h e; exact lt_of_block hc
  have b3 := (((Whole.new (w.alloc (.cells (blkCells b |>.setIfInBounds 3 (.slice a b.pending.length cap)) 133)) 28 #[.slice fa zs.length fcap]).alloc (.cells #[.string ⟨#[]⟩, .bool false, .bool false, .slice none 0 0] 133)).alloc (.cells (blkCells b) 133)).alloc (.cells #[.slice a b.pending.length cap] 131)
  have bR := ((Whole.new ((w.alloc (.cells (blkCells b |>.setIfInBounds 3 (.slice a b.pending.length cap)) 133)).alloc (.cells #[.slice fa zs.length fcap] 28)) 133 #[.string ⟨#[]⟩, .bool false, .bool false, .slice none 0 0]).alloc (.cells (blkCells b) 133)).alloc (.cells #[.slice a b.pending.length cap] 131)
  have bO := (Whole.new (((w.alloc (.cells (blkCells b |>.setIfInBounds 3 (.slice a b.pending.length cap)) 133)).alloc (.cells #[.slice fa zs.length fcap] 28)).alloc (.cells #[.string ⟨#[]⟩, .bool false, .bool false, .slice none 0 0] 133)) 133 (blkCells b)).alloc (.cells #[.slice a b.pending.length cap] 131)
  have bN := Whole.new ((((w.alloc (.cells (blkCells b |>.setIfInBounds 3 (.slice a b.pending.length cap)) 133)).alloc (.cells #[.slice fa zs.length fcap] 28)).alloc (.cells #[.string ⟨#[]⟩, .bool false, .bool false, .slice none 0 0] 133)).alloc (.cells (blkCells b) 133)) 131 #[.slice a b.pending.length cap]
  simp only [World.size_alloc] at b3 bR bO bN
  simp only [blkCells, List.setIfInBounds_toArray, List.set_cons_succ, List.set_cons_zero] at b3 bR bO bN
  have hsz : (((((w.alloc (.cells #[.string b.durable, .bool b.spoiled, .bool b.lost, .slice a b.pending.length cap] 133)).alloc (.cells #[.slice fa zs.length fcap] 28)).alloc (.cells #[.string ⟨#[]⟩, .bool false, .bool false, .slice none 0 0] 133)).alloc (.cells #[.string b.durable, .bool b.spoiled, .bool b.lost, .slice none 0 0] 133)).alloc (.cells #[.slice a b.pending.length cap] 131)).heap.size = w.heap.size + 5 := by simp
  have hB0 : Below w.heap.size w (((((w.alloc (.cells #[.string b.durable, .bool b.spoiled, .bool b.lost, .slice a b.pending.length cap] 133)).alloc (.cells #[.slice fa zs.length fcap] 28)).alloc (.cells #[.string ⟨#[]⟩, .bool false, .bool false, .slice none 0 0] 133)).alloc (.cells #[.string b.durable, .bool b.spoiled, .bool b.lost, .slice none 0 0] 133)).alloc (.cells #[.slice a b.pending.length cap] 131)) :=
    (((((Below.refl _ w).alloc (Nat.le_refl _) _).alloc (by simp) _).alloc (by simp; omega) _).alloc (by simp; omega) _).alloc (by simp; omega) _
  obtain ⟨W0, hW0⟩ : ∃ W0, (((((w.alloc (.cells #[.string b.durable, .bool b.spoiled, .bool b.lost, .slice a b.pending.length cap] 133)).alloc (.cells #[.slice fa zs.length fcap] 28)).alloc (.cells #[.string ⟨#[]⟩, .bool false, .bool false, .slice none 0 0] 133)).alloc (.cells #[.string b.durable, .bool b.spoiled, .bool b.lost, .slice none 0 0] 133)).alloc (.cells #[.slice a b.pending.length cap] 131)) = W0 := ⟨_, rfl⟩
  rw [hW0] at b3 bR bO bN hB0 hsz ⊢
  clear hW0
  have hI0 := ownsRow_same (w' := W0) h (fun k e => hB0.block k (hlw k e))
  refine wpIn_rangeFunc_ownH hro (by omega) (gf := 118) (lb := #[.pointer (some ⟨w.heap.size + 1 + 1 + 1 + 1, 0, none⟩)]) rfl trivial (enters_of Tryd.func118 (by kernel_rfl) rfl)
    (back_stops Fence.wide _ trivial rfl (by omega) (w.heap.size + 1 + 1 + 1 + 1) W0.heap.size _ b.pending hp hc W0 (by omega) (Nat.le_refl _) (bN.cell rfl) hI0 (fun k e => by have := hlw k e; omega)) belowK_t (belowK_b (Nat.le_refl _)) (Below.refl _ _) (fun _ => rfl)
    (fun pre W => ((Whole W (w.heap.size + 1) 28 #[.slice fa zs.length fcap] ∧ Whole W (w.heap.size + 1 + 1) 133 #[.string ⟨#[]⟩, .bool false, .bool false, .slice none 0 0]) ∧ Whole W (w.heap.size + 1 + 1 + 1) 133 (blkCells b)) ∧ (∀ x ∈ pre, oneHit zs b x.1.2 = none) ∧ Below w.heap.size w W ∧ W0.heap.size ≤ W.heap.size)
    (fun c pre W => (∃ ini last r, (c = .ret ∧ pre = ini ++ [last] ∧ (∀ x ∈ ini, oneHit zs b x.1.2 = none) ∧ oneHit zs b last.1.2 = some r) ∧ Whole W (w.heap.size + 1 + 1) 133 (blkCells r)) ∧ Below w.heap.size w W)
    (OwnFrom.and (OwnFrom.and (OwnFrom.and (Own.from (whole_own _ _ _) _) (Own.from (whole_own _ _ _) _)) (Own.from (whole_own _ _ _) _)) (OwnFrom.and (ownFrom_pure _ _) (OwnFrom.and (ownFrom_below (Nat.le_refl _) (by omega)) (ownFrom_size _ _))))
    (fun c => OwnFrom.and (fun pre X Y row hs hg hr => by obtain ⟨ini, last, r, h1, h2⟩ := hs; exact ⟨ini, last, r, h1, whole_own _ _ (fun (_ : Unit) => blkCells r) () X Y row h2 hg (fun j e => (hr j e).2)⟩) (ownFrom_below (Nat.le_refl _) (by omega)))
    ⟨⟨⟨b3, bR⟩, bO⟩, (fun x hx => (List.not_mem_nil hx).elim), hB0, Nat.le_refl _⟩
    (fun x a' W => ∃ Bx, w.heap.size + 1 + 1 + 1 + 1 < Bx ∧ Whole W Bx 167 #[.int .i64 (x.1.2.place : Int), .string x.1.2.data] ∧ a' = { tmps := #[blkV b (.slice a b.pending.length cap), .slice fa zs.length fcap, .pointer (some ⟨w.heap.size, 0, none⟩), .pointer (some ⟨w.heap.size + 1, 0, none⟩), .pointer (some ⟨w.heap.size + 1 + 1, 0, none⟩), .pointer (some ⟨w.heap.size + 1 + 1 + 1, 0, none⟩), undef, .pointer (some ⟨Bx, 0, none⟩),
          .pointer (some ⟨w.heap.size, 0, none⟩), .string b.durable, .pointer (some ⟨w.heap.size, 1, none⟩), .bool b.spoiled, .pointer (some ⟨w.heap.size, 2, none⟩), .bool b.lost, .agg #[.string b.durable, .bool b.spoiled, .bool b.lost, .slice none 0 0], .pointer (some ⟨w.heap.size, 3, none⟩), .slice a b.pending.length cap,
          .func (.func 118) #[] #[.pointer (some ⟨w.heap.size + 1 + 1 + 1 + 1, 0, none⟩)], .int .i64 (x.1.1 : Int), .agg #[.int .i64 (x.1.2.place : Int), .string x.1.2.data], undef, undef, undef, undef, undef, undef, undef, undef, undef, undef, undef, undef, undef, undef, undef, undef, undef, undef, undef, undef, undef, undef, undef], defers := [] })
    (fun x a' _ X Y row hs hg hr => by obtain ⟨Bx, h1, h2, h3⟩ := hs; exact ⟨Bx, h1, whole_own Bx _ (fun (_ : Unit) => #[.int .i64 (x.1.2.place : Int), .string x.1.2.data]) () X Y row h2 hg (fun r e => (hr r e).2), h3⟩)
    ?assign ?body ?done ?stop
  case assign =>
    rintro l pre x W K ⟨⟨⟨q3, qR⟩, qO⟩, hno, hB, hle⟩ hK
    dsimp only [encW]
    gi_wp2
    exact hK _ _ ((KeepsOthers.alloc _ _).from _) ((Below.refl _ W).alloc hle _) ⟨⟨⟨q3.alloc _, qR.alloc _⟩, qO.alloc _⟩, hno, hB.alloc hB.size _, Nat.le_trans hle (by simp)⟩ ⟨W.heap.size, by omega, Whole.new W _ _, rfl⟩
  case body =>
    rintro l pre x a' W hl hr ⟨⟨⟨q3, qR⟩, qO⟩, hno, hB, hle⟩ ⟨Bx, hBx, bX, rfl⟩ hlt
    obtain ⟨⟨xi, ⟨xp, xd⟩⟩, hxd⟩ := x
    dsimp only at bX hxd ⊢
    have x0 : W.cell? ⟨Bx, 0, none⟩ = some (.int .i64 (xp : Int)) := bX.cell rfl
    have x1 : W.cell? ⟨Bx, 1, none⟩ = some (.string xd) := bX.cell rfl
    have y3 : W.cell? ⟨w.heap.size + 1, 0, none⟩ = some (.slice fa zs.length fcap) := q3.cell rfl
    have hfo := callsIn_wide (n := 6 - 1 - 1 - 1).2 (fateOf_any xp xd _ zs W (hz.below hB))
    have hWX : ∀ W2, Below W.heap.size W W2 → (W2.cell? ⟨Bx, 0, none⟩ = some (.int .i64 (xp : Int)) ∧ W2.cell? ⟨Bx, 1, none⟩ = some (.string xd)) ∧ Whole W2 (w.heap.size + 1 + 1) 133 #[.string ⟨#[]⟩, .bool false, .bool false, .slice none 0 0] ∧ Whole W2 (w.heap.size + 1 + 1 + 1) 133 (blkCells b) :=
      fun W2 h2 => ⟨⟨(bX.below h2).cell rfl, (bX.below h2).cell rfl⟩, qR.below h2, qO.below h2⟩
    have HWX := Lib.hid hWX
    clear hWX
    have hxm : xd.size ≤ 9223372036854775807 := by omega
    have hone : oneHit zs b ⟨xp, xd⟩ = if fateF zs xp = 1 then some ⟨xd, false, b.lost, []⟩ else if fateF zs xp = 2 then some ⟨xd.extract 0 (xd.size / 2), true, b.lost, []⟩ else none := rfl
    generalize fateF zs xp = z at *
    by_cases h1 : z = 1
    · subst h1
      have HONE := Lib.hid (show oneHit zs b ⟨xp, xd⟩ = some ⟨xd, false, b.lost, []⟩ by rw [hone]; rfl)
      clear hone
      gi_wp2_with (refine ⟨trivial, ?_⟩; gi_at_call 102; refine (CallsIn.inRound l hfo).mono ?_; clear hfo; rintro e W2 ⟨rfl, hb2⟩; obtain ⟨⟨z0, z1⟩, zR, zO⟩ := HWX.out W2 hb2; have o0 : W2.cell? ⟨w.heap.size + 1 + 1 + 1, 0, none⟩ = some (.string b.durable) := zO.cell rfl; have o1 : W2.cell? ⟨w.heap.size + 1 + 1 + 1, 1, none⟩ = some (.bool b.spoiled) := zO.cell rfl; have o2 : W2.cell? ⟨w.heap.size + 1 + 1 + 1, 2, none⟩ = some (.bool b.lost) := zO.cell rfl; have o3 : W2.cell? ⟨w.heap.size + 1 + 1 + 1, 3, none⟩ = some (.slice none 0 0) := zO.cell rfl; have g0 := zO.free 0; have g1 := zO.free 1; have r0 : W2.cell? ⟨w.heap.size + 1 + 1, 0, none⟩ = some (.string ⟨#[]⟩) := zR.cell rfl; have r1 : W2.cell? ⟨w.heap.size + 1 + 1, 1, none⟩ = some (.bool false) := zR.cell rfl; have r2 : W2.cell? ⟨w.heap.size + 1 + 1, 2, none⟩ = some (.bool false) := zR.cell rfl; have r3 : W2.cell? ⟨w.heap.size + 1 + 1, 3, none⟩ = some (.slice none 0 0) := zR.cell rfl; have f0 := zR.free 0; have f1 := zR.free 1; have f2 := zR.free 2; have f3 := zR.free 3)
      exact ⟨(keeps_below hb2 _).trans ((left2_keeps W2 (w.heap.size + 1 + 1 + 1) (w.heap.size + 1 + 1) ⟨xd, false, b.lost, []⟩).from _), ⟨pre, _, _, ⟨rfl, rfl, hno, HONE.out⟩, left2_whole ⟨xd, false, b.lost, []⟩ zR (by omega)⟩, left2_below (W := W2) (O := w.heap.size + 1 + 1 + 1) (R := w.heap.size + 1 + 1) ⟨xd, false, b.lost, []⟩ (hB.trans (hb2.mono hB.size)) (by omega) (by omega)⟩
    · by_cases h2 : z = 2
      · subst h2
        have HONE := Lib.hid (show oneHit zs b ⟨xp, xd⟩ = some ⟨xd.extract 0 (xd.size / 2), true, b.lost, []⟩ by rw [hone]; rfl)
        clear hone h1
        gi_wp2_with (refine ⟨trivial, ?_⟩; gi_at_call 102; refine (CallsIn.inRound l hfo).mono ?_; clear hfo; rintro e W2 ⟨rfl, hb2⟩; obtain ⟨⟨z0, z1⟩, zR, zO⟩ := HWX.out W2 hb2; have o0 : W2.cell? ⟨w.heap.size + 1 + 1 + 1, 0, none⟩ = some (.string b.durable) := zO.cell rfl; have o1 : W2.cell? ⟨w.heap.size + 1 + 1 + 1, 1, none⟩ = some (.bool b.spoiled) := zO.cell rfl; have o2 : W2.cell? ⟨w.heap.size + 1 + 1 + 1, 2, none⟩ = some (.bool b.lost) := zO.cell rfl; have o3 : W2.cell? ⟨w.heap.size + 1 + 1 + 1, 3, none⟩ = some (.slice none 0 0) := zO.cell rfl; have g0 := zO.free 0; have g1 := zO.free 1; have r0 : W2.cell? ⟨w.heap.size + 1 + 1, 0, none⟩ = some (.string ⟨#[]⟩) := zR.cell rfl; have r1 : W2.cell? ⟨w.heap.size + 1 + 1, 1, none⟩ = some (.bool false) := zR.cell rfl; have r2 : W2.cell? ⟨w.heap.size + 1 + 1, 2, none⟩ = some (.bool false) := zR.cell rfl; have r3 : W2.cell? ⟨w.heap.size + 1 + 1, 3, none⟩ = some (.slice none 0 0) := zR.cell rfl; have f0 := zR.free 0; have f1 := zR.free 1; have f2 := zR.free 2; have f3 := zR.free 3)
        exact ⟨(keeps_below hb2 _).trans ((left2_keeps W2 (w.heap.size + 1 + 1 + 1) (w.heap.size + 1 + 1) ⟨xd.extract 0 (xd.size / 2), true, b.lost, []⟩).from _), ⟨pre, _, _, ⟨rfl, rfl, hno, HONE.out⟩, left2_whole ⟨xd.extract 0 (xd.size / 2), true, b.lost, []⟩ zR (by omega)⟩, left2_below (W := W2) (O := w.heap.size + 1 + 1 + 1) (R := w.heap.size + 1 + 1) ⟨xd.extract 0 (xd.size / 2), true, b.lost, []⟩ (hB.trans (hb2.mono hB.size)) (by omega) (by omega)⟩
      · have HONE := Lib.hid (show oneHit zs b ⟨xp, xd⟩ = none by rw [hone, if_neg h1, if_neg h2])
        have e1 : (z == 1) = false := by simpa using h1
        have e2 : (z == 2) = false := by simpa using h2
        clear hone h1 h2
        gi_wp2_with (refine ⟨trivial, ?_⟩; gi_at_call 102; refine (CallsIn.inRound l hfo).mono ?_; clear hfo; rintro e W2 ⟨rfl, hb2⟩)
        exact ⟨keeps_below hb2 _, hb2.mono hle, ⟨⟨⟨q3.below hb2, qR.below hb2⟩, qO.below hb2⟩, (fun y hy => (List.mem_append.1 hy).elim (hno y) (fun e => by rw [List.mem_singleton.1 e]; exact HONE.out)), hB.trans (hb2.mono hB.size), Nat.le_trans hle hb2.size⟩⟩
  case done =>
    rintro D ys W hD rfl ⟨⟨⟨q3, qR⟩, qO⟩, hno, hB, hle⟩ hK
    have o0 : W.cell? ⟨w.heap.size + 1 + 1 + 1, 0, none⟩ = some (.string b.durable) := qO.cell rfl
    have o1 : W.cell? ⟨w.heap.size + 1 + 1 + 1, 1, none⟩ = some (.bool b.spoiled) := qO.cell rfl
    have o2 : W.cell? ⟨w.heap.size + 1 + 1 + 1, 2, none⟩ = some (.bool b.lost) := qO.cell rfl
    have o3 : W.cell? ⟨w.heap.size + 1 + 1 + 1, 3, none⟩ = some (.slice none 0 0) := qO.cell rfl
    have r0 : W.cell? ⟨w.heap.size + 1 + 1, 0, none⟩ = some (.string ⟨#[]⟩) := qR.cell rfl
    have r1 : W.cell? ⟨w.heap.size + 1 + 1, 1, none⟩ = some (.bool false) := qR.cell rfl
    have r2 : W.cell? ⟨w.heap.size + 1 + 1, 2, none⟩ = some (.bool false) := qR.cell rfl
    have r3 : W.cell? ⟨w.heap.size + 1 + 1, 3, none⟩ = some (.slice none 0 0) := qR.cell rfl
    have f0 := qR.free 0
    have f1 := qR.free 1
    have f2 := qR.free 2
    have f3 := qR.free 3
    have hwhole := left1_whole ⟨b.durable, b.spoiled, b.lost, []⟩ qR
    have hcr := crash_none zs b hp hno
    have HCR := Lib.hid hcr
    clear hcr hno
    have hK' := (left1_keeps W (w.heap.size + 1 + 1) ⟨b.durable, b.spoiled, b.lost, []⟩).same D _ hK rfl
    have hbel := left1_below (R := w.heap.size + 1 + 1) ⟨b.durable, b.spoiled, b.lost, []⟩ hB (by omega)
    gi_wp2
    refine ⟨by simp, .inl ⟨_, _, rfl, run_takeDeferred hK', ?_⟩⟩
    have hp5 : Whole ((left1 W (w.heap.size + 1 + 1) ⟨b.durable, b.spoiled, b.lost, []⟩).putObj D (.deferred none)) (w.heap.size + 1 + 1) 133 (blkCells ⟨b.durable, b.spoiled, b.lost, []⟩) := whole_own _ _ (fun (_ : Unit) => blkCells ⟨b.durable, b.spoiled, b.lost, []⟩) () _ _ (some D) hwhole (grownBy_putObj' _ D (.deferred none)) (fun r e => by cases e; exact ⟨_, hK', rfl⟩)
    have c0 := hp5.cell (i := 0) rfl
    have c1 := hp5.cell (i := 1) rfl
    have c2 := hp5.cell (i := 2) rfl
    have c3 := hp5.cell (i := 3) rfl
    refine ⟨_, results_cell4 rfl hp5, by rw [HCR.out], hbel.trans (belowK_b (w := w) (Nat.le_refl _) _ D _ _ (by omega) hK' rfl rfl)⟩
  case stop =>
    rintro D c pre W hD ⟨k, hk, rfl⟩ ⟨⟨ini, last, r, ⟨rfl, e1, e2, e3⟩, hwhole⟩, hB⟩ hK
    have hcr := crash_some zs b r hp k hk ini last e1 e2 e3
    have HCR := Lib.hid hcr
    clear hcr e1 e2 e3
    gi_wp2
    refine ⟨by simp, .inl ⟨_, _, rfl, run_takeDeferred hK, ?_⟩⟩
    have hp5 : Whole (W.putObj D (.deferred none)) (w.heap.size + 1 + 1) 133 (blkCells r) := whole_own _ _ (fun (_ : Unit) => blkCells r) () _ _ (some D) hwhole (grownBy_putObj' _ D (.deferred none)) (fun r e => by cases e; exact ⟨_, hK, rfl⟩)
    refine ⟨_, results_cell4 rfl hp5, by rw [HCR.out], hB.trans (belowK_b (w := w) (Nat.le_refl _) _ D _ _ (by omega) hK rfl rfl)⟩
end
section
open Go.RowKit Go.Shelf
set_option linter.unusedVariables false
set_option maxRecDepth 100000

theorem blkcrash_any (b : Blk) (v fv : Value) (zs : List Int) (w : World) (hp : ∀ p ∈ b.pending, p.data.size ≤ 512) (hc : b.pending.length ≤ 4611686018427387904)
    (h : w.ownsRow 0 167 2 v b.pending.length (wrCells b.pending)) (hz : Fts w fv zs) :
    Calls Tryd.prog 68 #[blkV b v, fv] w fun e w' => e = .returned (blkV (b.crash zs) (.slice none 0 0)) ∧ Below w.heap.size w w' :=
  callsIn_wide.1 (blkcrash_in b v fv zs w hp hc h hz)

theorem crash_shape (zs : List Int) (b : Blk) (hd : b.durable.size ≤ 512) (hp : ∀ p ∈ b.pending, p.data.size ≤ 512) : (b.crash zs).pending = [] ∧ (b.crash zs).durable.size ≤ 512 ∧ (b.crash zs).lost = b.lost := by
  unfold Blk.crash
  cases h : b.pending.reverse.findSome? (oneHit zs b) with
  | none => exact ⟨rfl, hd, rfl⟩
  | some r =>
    obtain ⟨p, hm, hr⟩ := List.exists_of_findSome?_eq_some h
    have := hp p (List.mem_reverse.1 hm)
    unfold oneHit at hr
    split at hr
    · obtain rfl := Option.some.inj hr
      exact ⟨rfl, this, rfl⟩
    · split at hr
      · obtain rfl := Option.some.inj hr
        refine ⟨rfl, ?_, rfl⟩
        show (p.data.extract 0 (p.data.size / 2)).size ≤ 512
        rw [ByteArray.size_extract]
        omega
      · cases hr

/-- The device behind a power failure. -/
def Dv.crash (D : Dv) (zs : List Int) : Dv := ⟨D.bs.map (Blk.crash zs), 0, false, 0, false⟩
def Dv.cpart (D : Dv) (zs : List Int) (k : Nat) : Dv := ⟨(D.bs.take k).map (Blk.crash zs) ++ List.replicate (D.bs.length - k) blk0, 0, false, 0, false⟩
theorem cpart_zero (D : Dv) (zs : List Int) : D.cpart zs 0 = Dv.newN D.bs.length := by simp [Dv.cpart, Dv.newN]
theorem cpart_len (D : Dv) (zs : List Int) (k : Nat) (hk : k ≤ D.bs.length) : (D.cpart zs k).bs.length = D.bs.length := by simp [Dv.cpart]; omega
theorem cpart_at (D : Dv) (zs : List Int) (k : Nat) (hk : k < D.bs.length) : (D.cpart zs k).bs[k]? = some blk0 := by
  simp only [Dv.cpart]
  rw [List.getElem?_append_right (by simp; omega)]
  simp only [List.length_map, List.length_take, show min k D.bs.length = k by omega, Nat.sub_self]
  rw [List.getElem?_replicate, if_pos (by omega)]
theorem cpart_succ (D : Dv) (zs : List Int) (k : Nat) (b : Blk) (hb : D.bs[k]? = some b) : { D.cpart zs k with bs := (D.cpart zs k).bs.set k (b.crash zs) } = D.cpart zs (k + 1) := by
  have hi := (List.getElem?_eq_some_iff.1 hb).1
  have he : D.bs[k] = b := (List.getElem?_eq_some_iff.1 hb).2
  simp only [Dv.cpart]
  congr 1
  rw [List.set_append_right _ _ (by simp; omega)]
  simp only [List.length_map, List.length_take, show min k D.bs.length = k by omega, Nat.sub_self]
  obtain ⟨m, hm⟩ : ∃ m, D.bs.length - k = m + 1 := ⟨D.bs.length - k - 1, by omega⟩
  rw [hm, List.replicate_succ, List.set_cons_zero, List.take_succ_eq_append_getElem hi, he, show D.bs.length - (k + 1) = m by omega]
  simp
theorem cpart_all (D : Dv) (zs : List Int) : D.cpart zs D.bs.length = D.crash zs := by simp [Dv.cpart, Dv.crash]

section
variable {S : Nat → Prop} {w x : World} {B R : Nat} {sv : Nat → Value} {C : Array Value} {D : Dv}
/-- A block by value is stored. -/
def stored (W : World) (R k : Nat) (r : Blk) : World :=
  (((W.setCell ⟨R, k * 4, none⟩ (.string r.durable)).setCell ⟨R, k * 4 + 1, none⟩ (.bool r.spoiled)).setCell ⟨R, k * 4 + 2, none⟩ (.bool r.lost)).setCell ⟨R, k * 4 + 3, none⟩ (.slice none 0 0)
theorem store_put (k : Nat) (b r : Blk) (h : DevIn S w B R sv C D) (hb : D.bs[k]? = some b) (hs : r.durable.size ≤ 512) (hp : r.pending = []) :
    DevAt S (stored w R k r) B { D with bs := D.bs.set k r } ∧ Mod S w (stored w R k r) := by
  have hkl := (List.getElem?_eq_some_iff.1 hb).1
  obtain ⟨c0, c1, c2, c3⟩ := h.cells k b hb
  have hBR := h.BR
  have h1 := h.put (x := stored w R k r) (D' := { D with bs := D.bs.set k r }) (b' := r) (v' := .slice none 0 0) hb rfl
    (by unfold stored; rw [block_setCell_other hBR, block_setCell_other hBR, block_setCell_other hBR, block_setCell_other hBR, h.hB]; simp [devCells])
    (block_setCell (block_setCell (block_setCell (block_setCell h.hR)))) (by simp)
    (fun j hj => by rw [row_cell (w := w) (b := 0) (by omega), row_cell (w := w) (b := 0) (by omega), row_cell (w := w) (b := 0) (by omega), row_cell (w := w) (b := 0) (by omega)])
    (by rw [row_cell (w := w) (b := 0) (by omega), row_cell (w := w) (b := 0) (by omega), row_cell (w := w) (b := 0) (by omega)]; exact row_cell_same c0)
    (by rw [row_cell (w := w) (b := 0) (by omega), row_cell (w := w) (b := 0) (by omega)]; exact row_cell_same (by rw [row_cell (w := w) (b := 0) (by omega)]; exact c1))
    (by rw [row_cell (w := w) (b := 0) (by omega)]; exact row_cell_same (by rw [row_cell (w := w) (b := 0) (by omega), row_cell (w := w) (b := 0) (by omega)]; exact c2))
    (row_cell_same (by rw [row_cell (w := w) (b := 0) (by omega), row_cell (w := w) (b := 0) (by omega), row_cell (w := w) (b := 0) (by omega)]; exact c3))
    (by rw [hp]; exact World.ownsRow_nil _ _ _ _) (fun j e => by simp [Value.ownBlock] at e) (fun _ => rfl) (by simp [stored, World.setCell])
    (fun j _ hB hR _ => by unfold stored; rw [block_setCell_other hR, block_setCell_other hR, block_setCell_other hR, block_setCell_other hR])
    (h.fits.set hb hs (by rw [hp]; exact fun p hp => by cases hp) (by rw [hp]; exact Nat.zero_le _))
  have hS : (fun k => S k ∨ (Value.slice none 0 0).ownBlock = some k) = S := by funext j; simp [Value.ownBlock]
  rw [hS] at h1
  exact ⟨⟨_, _, _, h1⟩, ((((Mod.refl S w).setCell (p := ⟨R, k * 4, none⟩) (.inl h.sR) _).setCell (p := ⟨R, k * 4 + 1, none⟩) (.inl h.sR) _).setCell (p := ⟨R, k * 4 + 2, none⟩) (.inl h.sR) _).setCell (p := ⟨R, k * 4 + 3, none⟩) (.inl h.sR) _⟩
/-- A wider set will do, if it is allocated. -/
theorem DevAt.wide {T : Nat → Prop} (h : DevAt S w B D) (hS : ∀ k, S k → T k) (hT : ∀ k, T k → k < w.heap.size) : DevAt T w B D := by
  obtain ⟨R, sv, C, h⟩ := h
  exact ⟨R, sv, C, { h with sB := hS _ h.sB, sR := hS _ h.sR, sP := fun i k hi hk => hS _ (h.sP i k hi hk), lt := hT }⟩
end

set_option maxHeartbeats 2000000 in
theorem crash_any {S : Nat → Prop} {w : World} {B : Nat} {D : Dv} (fv : Value) (zs : List Int) (hw : D.writes ≤ 4611686018427387904) (h : DevAt S w B D) (hz : Fts w fv zs) :
    Calls Tryd.prog 24 #[.pointer (some ⟨B, 0, none⟩), fv] w fun e w' => NewDev (D.crash zs) w e w' := by
  have hnew := new_any (D.bs.length : Int) w
  have hfit := h.fits
  have hmany := hfit.many
  have e0 : Dv.new (D.bs.length : Int) = Dv.newN D.bs.length := by unfold Dv.new; congr 1; unfold howMany; omega
  rw [e0] at hnew
  clear e0
  obtain ⟨fa, fcap, rfl⟩ : ∃ fa fcap, fv = .slice fa zs.length fcap := by obtain ⟨fa, fcap, h, _⟩ := hz; exact ⟨fa, fcap, h⟩
  go_enter Tryd.func24, Tryd.ntmps24
  go_wp2_with fail
  refine (size_any h).mono ?_
  rintro e w' ⟨rfl, rfl⟩
  go_wp2_with fail
  refine hnew.mono ?_
  rintro e w1 ⟨B1, rfl, hd1, hb1⟩
  clear hnew
  obtain ⟨R1, sv1, C1, k1⟩ := id hd1
  have c0 := k1.c0
  rw [show (Dv.newN D.bs.length).bs.length = D.bs.length by simp [Dv.newN]] at c0
  clear k1
  go_wp2_with fail
  go_loopw [15] (fun i wr => ∃ k : Nat, k ≤ D.bs.length ∧ i = .int .i64 k ∧ (∃ S', DevAt S' wr B1 (D.cpart zs k) ∧ ∀ j, S' j → w.heap.size ≤ j) ∧ Below w.heap.size w wr) (fun i _ => D.bs.length - (intOf i).toNat)
  case atStart => exact ⟨0, Nat.zero_le _, rfl, ⟨span w.heap.size w1.heap.size, by rw [cpart_zero]; exact hd1, fun j hj => hj.1⟩, hb1⟩
  case round =>
    obtain ⟨k, hk, rfl, ⟨S', hdk, hS'⟩, hbk⟩ := hrel
    clear hd1 hb1 c0
    by_cases hlt : k < D.bs.length
    · obtain ⟨b, hb⟩ : ∃ b, D.bs[k]? = some b := ⟨_, List.getElem?_eq_getElem hlt⟩
      have hm := List.mem_of_getElem? hb
      have hsh := crash_shape zs b (hfit.durable b hm) (fun p hp => (hfit.pending b hm p hp).1)
      have hb0 := cpart_at D zs k hlt
      have HSU := Lib.hid (cpart_succ D zs k b hb)
      obtain ⟨R2, sv2, C2, k2⟩ := id hdk
      obtain ⟨R, sv, C, kd⟩ := h.below hbk
      have hrow := kd.rows k b hb
      obtain ⟨sa, scap, hsv⟩ := slice_of hrow
      have d0 := kd.c0
      have q0 := kd.r0 hb
      have q1 := kd.r1 hb
      have q2 := kd.r2 hb
      have q3 := kd.r3 hb
      rw [hsv] at q3 hrow
      have hcnt := kd.fits.count b hm
      have HCR := Lib.hid (fun (W : World) (hW : Below wr.heap.size wr W) => blkcrash_any b _ (.slice fa zs.length fcap) zs W (fun p hp => (hfit.pending b hm p hp).1) (by omega) (ownsRow_same hrow (fun j e => hW.block j (by obtain ⟨cur, hc⟩ := ownsRow_block hrow e; exact lt_of_block hc))) ((hz.below hbk).below hW))
      have HOF := Lib.hid (fun (W : World) (hW : Below wr.heap.size wr W) =>
        have k3 := k2.keep hW.size (fun j hj => hW.block j (k2.lt j hj))
        show (W.cell? ⟨B1, 0, none⟩ = some (.slice (some ⟨R2, 0, none⟩) D.bs.length (C2.size / 4)) ∧ W.cell? ⟨R2, k * 4, none⟩ = some (.string ⟨#[]⟩) ∧ W.cell? ⟨R2, k * 4 + 1, none⟩ = some (.bool false) ∧ W.cell? ⟨R2, k * 4 + 2, none⟩ = some (.bool false) ∧ W.cell? ⟨R2, k * 4 + 3, none⟩ = some (sv2 k)) ∧
          (W.frozen? ⟨R2, k * 4, none⟩ = false ∧ W.frozen? ⟨R2, k * 4 + 1, none⟩ = false ∧ W.frozen? ⟨R2, k * 4 + 2, none⟩ = false ∧ W.frozen? ⟨R2, k * 4 + 3, none⟩ = false) from
        ⟨⟨by have := k3.c0; rwa [cpart_len D zs k (by omega)] at this, k3.r0 hb0, k3.r1 hb0, k3.r2 hb0, k3.r3 hb0⟩, k3.fR _, k3.fR _, k3.fR _, k3.fR _⟩)
      have HPUT := Lib.hid (fun (W : World) (hW : Below wr.heap.size wr W) => store_put k blk0 (b.crash zs) (k2.keep hW.size (fun j hj => hW.block j (k2.lt j hj))) hb0 hsh.2.1 hsh.1)
      obtain ⟨⟨o0, p0, p1, p2, p3⟩, f0, f1, f2, f3⟩ := HOF.out wr (Below.refl _ _)
      clear hsh hb0 hrow hsv k2 kd hm hb hdk
      have HD := Lib.hid hS'
      clear hS'
      generalize hr : b.crash zs = r at HCR HPUT
      have HR := Lib.hid hr
      clear hr
      go_wp2_with fail
      go_region_with (go_at_call 68; refine (HCR.out _ (Below.refl _ _).drew).mono ?_; rintro e w2 ⟨rfl, hb2'⟩; have hb2 : Below wr.heap.size wr w2 := (Below.refl _ _).drew.trans hb2'; clear hb2'; obtain ⟨⟨o0', p0', p1', p2', p3'⟩, f0', f1', f2', f3'⟩ := HOF.out w2 hb2)
      all_goals
        go_wp2
        go_roundw
        case rel =>
          obtain ⟨hd3, hm3⟩ := HPUT.out w2 hb2
          refine ⟨k + 1, by omega, by go_num, ⟨S', ?_, HD.out⟩, ?_⟩
          · rw [← HSU.out, HR.out]; exact hd3
          · exact (hbk.trans (hb2.mono hbk.size)).trans (hm3.toBelow HD.out (Nat.le_trans hbk.size hb2.size))
        case measure => simp [intOf]; omega
    · obtain rfl : k = D.bs.length := by omega
      rw [cpart_all] at hdk
      go_wp2
      go_ret
      exact ⟨B1, rfl, hdk.wide (fun j hj => ⟨hS' j hj, hdk.lt j hj⟩) (fun j hj => hj.2), hbk⟩
end
section
open Go.RowKit
set_option linter.unusedVariables false
set_option maxRecDepth 100000

/-- A device whose blocks lie from n on. -/
def Lone (n : Nat) (w : World) (B : Nat) (D : Dv) : Prop := ∃ S, DevAt S w B D ∧ ∀ k, S k → n ≤ k
section
variable {n : Nat} {w x : World} {B : Nat} {D D' : Dv}
theorem Lone.below (h : Lone n w B D) (hb : Below w.heap.size w x) : Lone n x B D := by
  obtain ⟨S, h, hS⟩ := h
  exact ⟨S, h.below hb, hS⟩
theorem lone_new (h : DevAt (span w.heap.size x.heap.size) x B D) (hn : n ≤ w.heap.size) : Lone n x B D := ⟨_, h, fun k hk => Nat.le_trans hn hk.1⟩
theorem Lone.fits (h : Lone n w B D) : D.Fits := by obtain ⟨S, h, _⟩ := h; exact h.fits
theorem lone_write (i : Int) (s : ByteArray) (hn : n ≤ w.heap.size) (hw : D.writes ≤ 1073741824) (h : Lone n w B D) :
    Calls Tryd.prog 99 #[.pointer (some ⟨B, 0, none⟩), .int .i64 i, .string s] w fun e w' => e = .returned (.int .i64 (D.write i s).1) ∧ Lone n w' B (D.write i s).2 ∧ Below n w w' := by
  obtain ⟨S, h, hS⟩ := h
  refine (write_any i s hw h).mono ?_
  rintro e w' ⟨rfl, S', h', hS', hm⟩
  exact ⟨rfl, ⟨S', h', fun k hk => (hS' k hk).elim (hS k) (fun e => Nat.le_trans hn e)⟩, hm.toBelow hS hn⟩
theorem lone_flush (hn : n ≤ w.heap.size) (hw : D.writes ≤ 1073741824) (h : Lone n w B D) :
    Calls Tryd.prog 80 #[.pointer (some ⟨B, 0, none⟩)] w fun e w' => e = .returned (.int .i64 D.flush.1) ∧ Lone n w' B D.flush.2 ∧ Below n w w' := by
  obtain ⟨S, h, hS⟩ := h
  refine (flush_any h (by omega)).mono ?_
  rintro e w' ⟨rfl, h', hm⟩
  exact ⟨rfl, ⟨S, h', hS⟩, hm.toBelow hS hn⟩
theorem lone_fall (i : Int) (hi : i ≤ 9223372036854775807) (hn : n ≤ w.heap.size) (h : Lone n w B D) :
    Calls Tryd.prog 35 #[.pointer (some ⟨B, 0, none⟩), .int .i64 i] w fun e w' => e = .returned (.tuple #[]) ∧ Lone n w' B (D.fall i) ∧ Below n w w' := by
  obtain ⟨S, h, hS⟩ := h
  refine (fall_any i hi h).mono ?_
  rintro e w' ⟨rfl, h', hm⟩
  exact ⟨rfl, ⟨S, h', hS⟩, hm.toBelow hS hn⟩
theorem lone_read (i : Int) (hw : D.writes ≤ 1073741824) (h : Lone n w B D) :
    Calls Tryd.prog 69 #[.pointer (some ⟨B, 0, none⟩), .int .i64 i] w fun e w' => e = .returned (two (D.read i)) ∧ Below w.heap.size w w' := by
  obtain ⟨S, h, hS⟩ := h
  exact read_any i h (by omega)
theorem lone_down (h : Lone n w B D) : Calls Tryd.prog 37 #[.pointer (some ⟨B, 0, none⟩)] w fun e w' => e = .returned (.bool D.down) ∧ w = w' := by
  obtain ⟨S, h, hS⟩ := h
  exact down_any h
theorem lone_size (h : Lone n w B D) : Calls Tryd.prog 67 #[.pointer (some ⟨B, 0, none⟩)] w fun e w' => e = .returned (.int .i64 D.bs.length) ∧ w = w' := by
  obtain ⟨S, h, hS⟩ := h
  exact size_any h
theorem lone_crash (fv : Value) (zs : List Int) (hw : D.writes ≤ 1073741824) (h : Lone n w B D) (hz : Fts w fv zs) :
    Calls Tryd.prog 24 #[.pointer (some ⟨B, 0, none⟩), fv] w fun e w' => NewDev (D.crash zs) w e w' := by
  obtain ⟨S, h, hS⟩ := h
  exact crash_any fv zs (by omega) h hz
end
theorem Fts.nil (w : World) : Fts w (.slice none 0 0) [] := ⟨_, _, rfl, Nat.zero_le _, .inl rfl⟩
theorem Fts.one (w : World) (z : Int) (t : TypeId) : Fts (w.alloc (.cells #[.int .i64 z] t)) (.slice (some ⟨w.heap.size, 0, none⟩) 1 1) [z] :=
  ⟨_, _, rfl, (show 1 ≤ maxLen by decide), .inr ⟨w.heap.size, 0, rfl, by simp, fun j hj => by
    obtain rfl : j = 0 := by simp at hj; omega
    exact cell_of (World.alloc_heap_new w _) rfl⟩⟩
end
end Go.Proofs.YtiknfifiglooeaaDoor
