/- The fate of a write; the library's iterator over a slice from its end, at a slice of writes. No conditions beyond those in each statement. -/
import Derived.Test.YtpjbkeheemhlnaaDoorDevWrite
import Derived.RangeFuncNested
import Derived.RangeFuncBound
import Derived.RangeFuncCalls
import Derived.RangeFuncLeaves
import Derived.Shelf.Abstract
import Derived.Shelf.RegionOpen
import Derived.WalkKit
import Derived.OwnWalkIn
import Derived.TacticsInMore
import Derived.LoopNIn
import Derived.LoopIn
import Derived.BigFrameIn
namespace Go.Proofs.YtpjbkeheemhlnaaDoor
open Go.RowKit Go.Shelf
set_option linter.unusedVariables false
set_option maxRecDepth 100000

/-- A slice of fates that can be read: zs. -/
def Fts (w : World) (v : Value) (zs : List Int) : Prop :=
  ∃ a cap, v = .slice a zs.length cap ∧ zs.length ≤ maxLen ∧ (zs.length = 0 ∨ ∃ g off, a = some ⟨g, off, none⟩ ∧ g < w.heap.size ∧ ∀ j, j < zs.length → w.cell? ⟨g, off + j, none⟩ = some (.int .i64 (zs.getD j 0)))
theorem Fts.below {w x : World} {v : Value} {zs : List Int} (h : Fts w v zs) (hb : Below w.heap.size w x) : Fts x v zs := by
  obtain ⟨a, cap, hv, hm, h⟩ := h
  refine ⟨a, cap, hv, hm, h.imp id ?_⟩
  rintro ⟨g, off, ha, hg, hc⟩
  exact ⟨g, off, ha, Nat.lt_of_lt_of_le hg hb.size, fun j hj => (hb.cell (p := ⟨g, off + j, none⟩) hg).trans (hc j hj)⟩

/-- The i-th write's fate: the missing ones are Lost. -/
def fateF (zs : List Int) (i : Nat) : Int := zs.getD i 0

theorem fateOf_any (p : Nat) (s : ByteArray) (v : Value) (zs : List Int) (w : World) (h : Fts w v zs) :
    Calls Tryd.prog 84 #[.agg #[.int .i64 p, .string s], v] w fun e w' => e = .returned (.int .i64 (fateF zs p)) ∧ Below w.heap.size w w' := by
  obtain ⟨a, cap, rfl, hm, h⟩ := h
  unfold maxLen at hm
  by_cases hp : p < zs.length
  · rcases h with h | ⟨g, off, rfl, hg, hc⟩
    · omega
    · have hcell := hc p hp
      have e0 : fateF zs p = zs.getD p 0 := rfl
      rw [e0]
      generalize zs.getD p 0 = z at *
      clear hc e0
      have hlt : ∀ o, (w.alloc o).cell? ⟨g, off + p, none⟩ = some (.int .i64 z) := fun o => ((Below.refl w.heap.size w).alloc (Nat.le_refl _) o).cell (p := ⟨g, off + p, none⟩) hg |>.trans hcell
      have h2 := hlt (.cells #[.int .i64 p, .string s] 144)
      clear hlt
      go_enter Tryd.func84, Tryd.ntmps84
      go_wp2
      go_ret
      exact ⟨rfl, (Below.refl _ _).alloc (Nat.le_refl _) _⟩
  · have e0 : fateF zs p = 0 := by simp [fateF, List.getD_eq_getElem?_getD, List.getElem?_eq_none (by omega : zs.length ≤ p)]
    rw [e0]
    clear e0 h
    go_enter Tryd.func84, Tryd.ntmps84
    go_wp2
    go_ret
    exact ⟨rfl, (Below.refl _ _).alloc (Nat.le_refl _) _⟩

/-- What the iterator hands on: an index, and the write there. -/
abbrev Wn := { x : Nat × Wr // x.2.data.size ≤ 512 }
def encW (x : Wn) : Array Value := #[.int .i64 (x.1.1 : Int), .agg #[.int .i64 (x.1.2.place : Int), .string x.1.2.data]]
/-- From the end: the writes at n - 1, .., 0. -/
def back (f : Nat → Wn) (n k : Nat) : List Wn := (List.range k).map fun j => f (n - 1 - j)
theorem back_succ (f : Nat → Wn) (n k : Nat) : back f n (k + 1) = back f n k ++ [f (n - 1 - k)] := by simp [back, List.range_succ]
theorem back_length (f : Nat → Wn) (n k : Nat) : (back f n k).length = k := by simp [back]

set_option maxRecDepth 100000 in
set_option maxHeartbeats 2000000 in
theorem back1_in (F : Fence) (n : Nat) (hf : F.fn 99) (hro : F.round = none) (hn : 1 ≤ n) (l Bs n₀ g len cap : Nat) (f : Nat → Wn) (hlen : len ≤ 4611686018427387904) (hg : g < n₀) (hBs0 : Bs < n₀) (J Jx : List Wn → World → Prop)
    (hfi : ∀ j, j < len → (f j).1.1 = j)
    (hY : ∀ pre x W, J pre W → pre.length < len → YieldAt F (n - 1) Tryd.prog l (encW x) W fun e W' =>
      (e = .returned (.bool true) ∧ J (pre ++ [x]) W' ∧ Below n₀ W W') ∨ (e = .returned (.bool false) ∧ Jx (pre ++ [x]) W'))
    (W : World) (hBs : W.cell? ⟨Bs, 0, none⟩ = some (.slice (some ⟨g, 0, none⟩) len cap))
    (hc : ∀ j, j < len → W.cell? ⟨g, j * 2, none⟩ = some (.int .i64 ((f j).1.2.place : Int)) ∧ W.cell? ⟨g, j * 2 + 1, none⟩ = some (.string (f j).1.2.data)) (h0 : J [] W) :
    CallsIn F n Tryd.prog 99 #[.func (.yield l) #[] #[], .pointer (some ⟨Bs, 0, none⟩)] W fun e W' => (∃ v, e = .returned v) ∧
      ((∃ ys, ys = back f len len ∧ J ys W') ∨ (∃ pre, (∃ k, k ≤ len ∧ pre = back f len k) ∧ Jx pre W')) := by
  refine callsIn_of_wp Tryd.func99 rfl hf ?_ hro
  simp only [Tryd.ntmps99, List.size_toArray, List.length_cons, List.length_nil, Nat.reduceAdd, Nat.reduceSub, Array.replicate_succ, Array.replicate_zero, List.push_toArray, List.append_toArray, List.nil_append, List.cons_append]
  gi_wp2
  gi_loopw [3] (fun i wr => ∃ k : Nat, k ≤ len ∧ i = .int .i64 ((len : Int) - 1 - k) ∧ J (back f len k) wr ∧ Below n₀ W wr)
    (fun i _ => (intOf i + 1).toNat)
  case atStart => exact ⟨0, Nat.zero_le _, by simp, h0, Below.refl _ _⟩
  case round =>
    obtain ⟨k, hk, rfl, hJs, hnx⟩ := hrel
    have hbs := (hnx.cell (p := ⟨Bs, 0, none⟩) hBs0).trans hBs
    by_cases hlt : k < len
    · obtain ⟨m, hm⟩ : ∃ m, m = len - 1 - k := ⟨_, rfl⟩
      have hml : m < len := by omega
      have e1 : (len : Int) - 1 - k = (m : Int) := by omega
      rw [e1]
      have hx0 := (hnx.cell (p := ⟨g, m * 2, none⟩) hg).trans (hc m hml).1
      have hx1 := (hnx.cell (p := ⟨g, m * 2 + 1, none⟩) hg).trans (hc m hml).2
      obtain ⟨fn, tmps, assign, body, hy, hR⟩ := hY _ (f m) wr hJs (by rw [back_length]; exact hlt)
      simp only [encW] at hy
      rw [hfi m hml] at hy
      have hbk : back f len (k + 1) = back f len k ++ [f m] := by rw [back_succ, ← hm]
      have HBK := Lib.hid hbk
      have HM := Lib.hid hm
      clear hbk hm e1
      gi_wp2
      refine hR.mono ?_
      rintro e W3 (⟨rfl, hJ3, hk3⟩ | ⟨rfl, hJx3⟩)
      · gi_wp2
        go_roundw
        case rel => exact ⟨k + 1, by omega, by have := HM.out; congr 1; omega, by rw [HBK.out]; exact hJ3, hnx.trans hk3⟩
        case measure => simp [intOf]
      · gi_wp2
        refine bodyPost_ret (results_none rfl _ _ _) rfl ?_
        exact ⟨⟨_, rfl⟩, .inr ⟨_, ⟨k + 1, by omega, HBK.out.symm⟩, hJx3⟩⟩
    · obtain rfl : k = len := by omega
      gi_wp2
      go_end0
      exact ⟨⟨_, rfl⟩, .inl ⟨_, rfl, hJs⟩⟩

set_option maxRecDepth 100000 in
set_option maxHeartbeats 1000000 in
/-- .. at a slice without writes. -/
theorem back1_nil_in (F : Fence) (n : Nat) (hf : F.fn 99) (hro : F.round = none) (l Bs cap : Nat) (a : Option Addr) (J : List Wn → World → Prop) (W : World) (hBs : W.cell? ⟨Bs, 0, none⟩ = some (.slice a 0 cap)) (h0 : J [] W) :
    CallsIn F n Tryd.prog 99 #[.func (.yield l) #[] #[], .pointer (some ⟨Bs, 0, none⟩)] W fun e W' => (∃ v, e = .returned v) ∧ J [] W' := by
  refine callsIn_of_wp Tryd.func99 rfl hf ?_ hro
  simp only [Tryd.ntmps99, List.size_toArray, List.length_cons, List.length_nil, Nat.reduceAdd, Nat.reduceSub, Array.replicate_succ, Array.replicate_zero, List.push_toArray, List.append_toArray, List.nil_append, List.cons_append]
  gi_wp2
  gi_loopw [3] (fun i wr => i = .int .i64 (-1) ∧ J [] wr) (fun _ _ => 0)
  case atStart => exact ⟨rfl, h0⟩
  case round =>
    obtain ⟨rfl, hJs⟩ := hrel
    gi_wp2
    go_end0
    exact ⟨⟨_, rfl⟩, hJs⟩

set_option maxHeartbeats 1000000 in
/-- slices.Backward(s): the slice is boxed; the function value captures the box. -/
theorem back_in (F : Fence) (n : Nat) (hf : F.fn 83) (hro : F.round = none) (a : Option Addr) (len cap : Nat) (w : World) :
    CallsIn F n Tryd.prog 83 #[.slice a len cap] w fun e w' => e = .returned (.func (.func 99) #[] #[.pointer (some ⟨w.heap.size, 0, none⟩)]) ∧ w' = w.alloc (.cells #[.slice a len cap] 107) := by
  refine callsIn_of_wp Tryd.func83 rfl hf ?_ hro
  simp only [Tryd.ntmps83, List.size_toArray, List.length_cons, List.length_nil, Nat.reduceAdd, Nat.reduceSub, Array.replicate_succ, Array.replicate_zero, List.push_toArray, List.append_toArray, List.nil_append, List.cons_append]
  gi_wp2
  go_ret
  exact ⟨rfl, rfl⟩

/-- The writes of a list, each with its index. -/
def wn0 : Wn := ⟨(0, ⟨0, ⟨#[]⟩⟩), Nat.zero_le _⟩
def wnAt (ps : List Wr) (hs : ∀ p ∈ ps, p.data.size ≤ 512) (j : Nat) : Wn :=
  if h : j < ps.length then ⟨(j, ps[j]), hs _ (List.getElem_mem h)⟩ else wn0
theorem wnAt_eq {ps : List Wr} {hs : ∀ p ∈ ps, p.data.size ≤ 512} {j : Nat} (h : j < ps.length) : (wnAt ps hs j).1 = (j, ps[j]) := by simp [wnAt, h]

/-- slices.Backward(s) hands back a value that goes through the writes from the end. -/
theorem back_stops (F : Fence) (n : Nat) (hf : F.fn 99) (hro : F.round = none) (hn : 1 ≤ n) (Bs n₀ : Nat) (sv : Value) (ps : List Wr) (hs : ∀ p ∈ ps, p.data.size ≤ 512) (hlen : ps.length ≤ 4611686018427387904) (w : World) (hBs : Bs < n₀) (hn₀ : n₀ ≤ w.heap.size)
    (hc : w.cell? ⟨Bs, 0, none⟩ = some sv) (hI : w.ownsRow 0 144 2 sv ps.length (wrCells ps)) (hg : ∀ k, sv.ownBlock = some k → k < n₀) :
    SeqStopsK F n Tryd.prog 99 #[.pointer (some ⟨Bs, 0, none⟩)] encW (Below n₀) (fun ys => ys = back (wnAt ps hs) ps.length ps.length)
      (fun pre => ∃ k, k ≤ ps.length ∧ pre = back (wnAt ps hs) ps.length k) ps.length w := fun l J Jx W hW _ _ hY h0 => by
  have hc' := (hW.cell (p := ⟨Bs, 0, none⟩) (Nat.lt_of_lt_of_le hBs hn₀)).trans hc
  have hI' : W.ownsRow 0 144 2 sv ps.length (wrCells ps) := ownsRow_same hI (fun k hk => hW.block k (Nat.lt_of_lt_of_le (hg k hk) hn₀))
  by_cases hz : ps.length = 0
  · obtain rfl : ps = [] := List.eq_nil_of_length_eq_zero hz
    obtain ⟨a, cap, rfl⟩ := slice_of hI'
    exact (back1_nil_in F n hf hro l Bs cap a J W hc' h0).mono fun e W' ⟨he, hj⟩ => ⟨he, .inl ⟨_, rfl, hj⟩⟩
  · rcases row_of hI' with ⟨rfl, h⟩ | ⟨g, cap, rfl, hgl, _, _, hcell⟩
    · exact absurd (by rw [h]; rfl) hz
    · refine (back1_in F n hf hro hn l Bs n₀ g ps.length cap (wnAt ps hs) hlen (hg g rfl) hBs J Jx (fun j hj => by rw [wnAt_eq hj]) hY W hc' (fun j hj => ?_) h0).mono fun e W' h => h
      rw [wnAt_eq hj]
      exact hcell j _ (List.getElem?_eq_getElem hj)
end Go.Proofs.YtpjbkeheemhlnaaDoor
