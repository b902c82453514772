/- Cut: a text's chunks. No conditions beyond those in each statement. -/
import Derived.Test.YtiknfifiglooeaaDoorDevW
import Derived.Test.YtiknfifiglooeaaDoorDevFlip
import Derived.RangeFuncBox
import Derived.RangeFuncLeaves
import Derived.Shelf.Abstract
import Derived.WalkKit
import Derived.OwnWalkIn
import Derived.TacticsInMore
import Derived.LoopNIn
import Derived.LoopIn
import Derived.Maps.AppendAt
import Derived.Sort.QuietIn
namespace Go.Proofs.YtiknfifiglooeaaDoor
open Go.RowKit Go.Shelf
set_option linter.unusedVariables false
set_option maxRecDepth 100000
attribute [local go_sem] Oper.semAt_some

/-- How many chunks. -/
def cutN (n : Nat) : Nat := (n + 399) / 400
/-- The k-th chunk. -/
def cutAt (s : ByteArray) (k : Nat) : ByteArray := s.extract (400 * k) (400 * k + 400)
def cutS (s : ByteArray) : List ByteArray := (List.range (cutN s.size)).map (cutAt s)
theorem cutS_length (s : ByteArray) : (cutS s).length = cutN s.size := by simp [cutS]
theorem cell_same {w w' : World} {g i : Nat} (h : w'.heap[g]? = w.heap[g]?) : w'.cell? ⟨g, i, none⟩ = w.cell? ⟨g, i, none⟩ := by simp only [World.cell?, h]
/-- All below n₀ lies as it lay, but the block O. -/
structure Kq (O n₀ : Nat) (A B : World) : Prop where
  os : B.os = A.os
  tape : B.tape = A.tape
  output : B.output = A.output
  size : A.heap.size ≤ B.heap.size
  block : ∀ k, k < n₀ → k ≠ O → B.heap[k]? = A.heap[k]?
theorem Kq.refl (O n₀ : Nat) (A : World) : Kq O n₀ A A := ⟨rfl, rfl, rfl, Nat.le_refl _, fun _ _ _ => rfl⟩
theorem Kq.trans {O n₀ : Nat} {A B C : World} (h : Kq O n₀ A B) (k : Kq O n₀ B C) : Kq O n₀ A C := ⟨k.os.trans h.os, k.tape.trans h.tape, k.output.trans h.output, Nat.le_trans h.size k.size, fun j hj hO => (k.block j hj hO).trans (h.block j hj hO)⟩
theorem Kq.of_below {O n₀ : Nat} {A B : World} (h : Below n₀ A B) : Kq O n₀ A B := ⟨h.os, h.tape, h.output, h.size, fun k hk _ => h.block k hk⟩
theorem kq_b {O n₀ : Nat} {w : World} (hn : n₀ ≤ w.heap.size) (W : World) (l : Nat) (o o' : Obj) (hl : w.heap.size ≤ l) (h : W.heap[l]? = some o) (hc : o.isCells = false) (hw : o.isWalk = false) : Kq O n₀ W (W.putObj l o') :=
  Kq.of_below (belowK_b hn W l o o' hl h hc hw)
theorem ownFrom_kq {β : Type} {O n₀ B : Nat} {w₀ : World} (hn : n₀ ≤ w₀.heap.size) (hB : n₀ ≤ B) : OwnFrom B (fun (_ : β) W => Kq O n₀ w₀ W) := by
  intro s X Y row h hg hr
  refine h.trans ⟨hg.os, hg.tape, hg.output, hg.size, fun k hk _ => hg.block k (Nat.lt_of_lt_of_le hk (Nat.le_trans hn h.size)) (fun e => ?_)⟩
  have := (hr k e.symm).1
  omega
theorem kq_set {O n₀ : Nat} {A B : World} (h : Kq O n₀ A B) (v : Value) : Kq O n₀ A (B.setCell ⟨O, 0, none⟩ v) :=
  ⟨h.os, h.tape, h.output, by simpa using h.size, fun k hk hO => (block_setCell_other hO).trans (h.block k hk hO)⟩
theorem appended_kq {W w1 : World} {n₀ B : Nat} {t e : TypeId} {size : Nat} {v v' : Value} {k m : Nat} {xs ys : List Value} {tmp : Obj}
    (hv : Boxed W B t v) (hte : t ≠ e) (hrow : W.ownsRow n₀ e size v k xs) (hn₀ : n₀ ≤ W.heap.size)
    (hown' : w1.ownsRow n₀ e size v' m ys) (hgrow : (W.alloc tmp).grownBy w1 v.ownBlock) :
    Boxed w1 B t v ∧ Boxed (w1.setCell ⟨B, 0, none⟩ v') B t v' ∧ (w1.setCell ⟨B, 0, none⟩ v').ownsRow n₀ e size v' m ys ∧ KeepsOthers W (w1.setCell ⟨B, 0, none⟩ v') ∧ Kq B n₀ W (w1.setCell ⟨B, 0, none⟩ v') := by
  have hv1 : Boxed w1 B t v := (hv.alloc tmp).kept hgrow (hv.not_row hte hrow)
  refine ⟨hv1, hv1.set v', hown'.kept (grownBy_setCell' w1 B v') (.inr (hv1.not_row hte hown').symm), ?_, ?_⟩
  · refine ((KeepsOthers.alloc W tmp).trans (KeepsOthers.of_grownBy hgrow fun j o ej hj => ?_)).trans (KeepsOthers.setCell _ _ _)
    rcases (hrow.alloc tmp).2 with ⟨rfl, _⟩ | ⟨g, cap, cur, rfl, _, hgb, _⟩
    · simp [Value.ownBlock] at ej
    · obtain rfl : g = j := by simpa [Value.ownBlock] using ej
      rw [hgb] at hj; cases hj; rfl
  · refine kq_set (A := W) ⟨hgrow.os, hgrow.tape, hgrow.output, Nat.le_trans (by simp) hgrow.size, fun j hj _ => ?_⟩ v'
    refine (hgrow.block j (by simp; omega) (fun ej => ?_)).trans (Below.heap_alloc W tmp j (by omega))
    rcases hrow.2 with ⟨rfl, _⟩ | ⟨g, cap, cur, rfl, hb, _, _⟩
    · simp [Value.ownBlock] at ej
    · obtain rfl : j = g := by simpa [Value.ownBlock] using ej
      omega
theorem cutAt_size (s : ByteArray) (k : Nat) : (cutAt s k).size = min 400 (s.size - 400 * k) := by unfold cutAt; rw [ByteArray.size_extract]; omega
/-- What the iterator hands on. -/
def encC (g len k : Nat) : Array Value := #[.slice (some ⟨g, 400 * k, none⟩) (min 400 (len - 400 * k)) (min 400 (len - 400 * k))]

set_option maxHeartbeats 4000000 in
theorem chunk1_in (n : Nat) (hn : 1 ≤ n) (l O Bs Bn n₀ g len cap : Nat) (ao : Option Addr) (hlen : len ≤ 1000000000000) (hcap : len ≤ cap) (hBs0 : Bs < n₀ ∧ Bs ≠ O) (hBn0 : Bn < n₀ ∧ Bn ≠ O) (hao : 0 < len → ao = some ⟨g, 0, none⟩) (J Jx : List Nat → World → Prop) (hJd : ∀ s A q, J s A → J s (World.drewN A q))
    (hY : ∀ pre x W, J pre W → pre.length < cutN len → YieldAt Fence.wide (n - 1) Tryd.prog l (encC g len x) W fun e W' =>
      (e = .returned (.bool true) ∧ J (pre ++ [x]) W' ∧ Kq O n₀ W W') ∨ (e = .returned (.bool false) ∧ Jx (pre ++ [x]) W'))
    (W : World) (hBs : W.cell? ⟨Bs, 0, none⟩ = some (.slice ao len cap)) (hBn : W.cell? ⟨Bn, 0, none⟩ = some (.int .i64 400)) (h0 : J [] W) :
    CallsIn Fence.wide n Tryd.prog 109 #[.func (.yield l) #[] #[], .pointer (some ⟨Bs, 0, none⟩), .pointer (some ⟨Bn, 0, none⟩)] W fun e W' => (∃ v, e = .returned v) ∧
      ((∃ ys, ys = List.range (cutN len) ∧ J ys W') ∨ (∃ pre, (∃ k, k ≤ cutN len ∧ pre = List.range k) ∧ Jx pre W')) := by
  refine callsIn_of_wp Tryd.func109 rfl trivial ?_ rfl
  simp only [Tryd.ntmps109, List.size_toArray, List.length_cons, List.length_nil, Nat.reduceAdd, Nat.reduceSub, Array.replicate_succ, Array.replicate_zero, List.push_toArray, List.append_toArray, List.nil_append, List.cons_append]
  gi_wp2
  gi_loopw [4] (fun i wr => ∃ k : Nat, k ≤ cutN len ∧ i = .int .i64 ((400 * k : Nat) : Int) ∧ J (List.range k) wr ∧ Kq O n₀ W wr)
    (fun i _ => 400 * cutN len - (intOf i).toNat)
  case atStart => exact ⟨0, Nat.zero_le _, by simp, h0, Kq.refl _ _ _⟩
  case round =>
    obtain ⟨k, hk, rfl, hJs, hnx⟩ := hrel
    have hbs := (cell_same (i := 0) (hnx.block Bs hBs0.1 hBs0.2)).trans hBs
    have hbn := (cell_same (i := 0) (hnx.block Bn hBn0.1 hBn0.2)).trans hBn
    obtain ⟨i, hi⟩ : ∃ i, i = 400 * k := ⟨_, rfl⟩
    rw [← hi]
    by_cases hlt : k < cutN len
    · have hil : i < len := by unfold cutN at hlt; omega
      have hil2 : (i : Int) < (len : Int) := by omega
      obtain ⟨q, hq⟩ : ∃ q, q = min 400 (len - i) := ⟨_, rfl⟩
      have hq1 : 1 ≤ q ∧ q ≤ 400 ∧ i + q ≤ len := by omega
      have e1 : min (400 : Int) ((len - i : Nat) : Int) = (q : Int) := by omega
      have e2 : IntKind.i64.wrap ((i : Int) + (q : Int)) = ((i + q : Nat) : Int) := by rw [IntWalk.i64_in _ (by omega)]; push_cast; rfl
      have e3 : IntKind.i64.wrap ((i : Int) + 400) = ((400 * (k + 1) : Nat) : Int) := by rw [IntWalk.i64_in _ (by omega)]; push_cast; omega
      obtain rfl := hao (by omega)
      have HI := Lib.hid hi
      have HQ := Lib.hid hq
      have d1 : (i : Int) ≤ (cap : Int) := by omega
      have d2 : (0 : Int) ≤ (i : Int) := by omega
      have d3 : ((i + q : Nat) : Int) ≤ (cap : Int) := by omega
      have d4 : (i : Int) ≤ ((i + q : Nat) : Int) := by omega
      have d5 : i ≤ cap := by omega
      have d6 : i ≤ len := by omega
      have d7 : i + q ≤ cap := by omega
      clear hi hq
      gi_wp2
      gi_quiet (fail)
      obtain ⟨fn, tmps, assign, body, hy, hR⟩ := hY _ k (wr.drewN nq) (hJd _ _ _ hJs) (by simpa using hlt)
      simp only [encC] at hy
      rw [← HI.out, ← HQ.out] at hy
      have hbs2 : (wr.drewN nq).cell? ⟨Bs, 0, none⟩ = some (.slice (some ⟨g, 0, none⟩) len cap) := hbs
      have hbn2 : (wr.drewN nq).cell? ⟨Bn, 0, none⟩ = some (.int .i64 400) := hbn
      have hnx2 : Kq O n₀ W (wr.drewN nq) := hnx.trans ⟨rfl, rfl, rfl, Nat.le_refl _, fun _ _ _ => rfl⟩
      generalize wr.drewN nq = wd at *
      gi_wp2
      refine hR.mono ?_
      rintro e W3 (⟨rfl, hJ3, hk3⟩ | ⟨rfl, hJx3⟩)
      · have hbn3 := (cell_same (i := 0) (hk3.block Bn hBn0.1 hBn0.2)).trans hbn2
        gi_wp2
        go_roundw
        case rel => exact ⟨k + 1, by omega, rfl, by rw [List.range_succ]; exact hJ3, hnx2.trans hk3⟩
        case measure => have := HI.out; simp [intOf]; omega
      · gi_wp2
        refine bodyPost_ret (results_none rfl _ _ _) rfl ?_
        exact ⟨⟨_, rfl⟩, .inr ⟨_, ⟨k + 1, by omega, List.range_succ.symm⟩, hJx3⟩⟩
    · obtain rfl : k = cutN len := by omega
      have hil : ¬ (i : Int) < (len : Int) := by unfold cutN at hi; omega
      clear hi
      gi_wp2
      go_end0
      exact ⟨⟨_, rfl⟩, .inl hJs⟩

set_option maxHeartbeats 1000000 in
/-- slices.Chunk(s, 400): slice and length are boxed; the function value captures the boxes. -/
theorem chunk0_in (n : Nat) (a : Option Addr) (len cap : Nat) (w : World) :
    CallsIn Fence.wide n Tryd.prog 71 #[.slice a len cap, .int .i64 400] w fun e w' => e = .returned (.func (.func 109) #[] #[.pointer (some ⟨w.heap.size, 0, none⟩), .pointer (some ⟨w.heap.size + 1, 0, none⟩)]) ∧ w' = (w.alloc (.cells #[.slice a len cap] 100)).alloc (.cells #[.int .i64 400] 3) := by
  refine callsIn_of_wp Tryd.func71 rfl trivial ?_ rfl
  simp only [Tryd.ntmps71, List.size_toArray, List.length_cons, List.length_nil, Nat.reduceAdd, Nat.reduceSub, Array.replicate_succ, Array.replicate_zero, List.push_toArray, List.append_toArray, List.nil_append, List.cons_append]
  gi_wp2
  go_ret
  exact ⟨rfl, rfl⟩
theorem chunk_stops (n : Nat) (hn : 1 ≤ n) (O Bs Bn n₀ g len cap : Nat) (ao : Option Addr) (hlen : len ≤ 1000000000000) (hcap : len ≤ cap) (w : World) (hBs : Bs < n₀ ∧ Bs ≠ O) (hBn : Bn < n₀ ∧ Bn ≠ O) (hn₀ : n₀ ≤ w.heap.size) (hao : 0 < len → ao = some ⟨g, 0, none⟩)
    (hc : w.cell? ⟨Bs, 0, none⟩ = some (.slice ao len cap)) (hc2 : w.cell? ⟨Bn, 0, none⟩ = some (.int .i64 400)) :
    SeqStopsK Fence.wide n Tryd.prog 109 #[.pointer (some ⟨Bs, 0, none⟩), .pointer (some ⟨Bn, 0, none⟩)] (encC g len) (Kq O n₀) (fun ys => ys = List.range (cutN len))
      (fun pre => ∃ k, k ≤ cutN len ∧ pre = List.range k) (cutN len) w := fun l J Jx W hW hJ _ hY h0 =>
  chunk1_in n hn l O Bs Bn n₀ g len cap ao hlen hcap hBs hBn hao J Jx (fun s A q h => hJ s A _ none h ⟨rfl, rfl, rfl, Nat.le_refl _, fun _ _ _ => rfl⟩ (fun r e => by cases e)) hY W
    ((hW.cell (p := ⟨Bs, 0, none⟩) (Nat.lt_of_lt_of_le hBs.1 hn₀)).trans hc) ((hW.cell (p := ⟨Bn, 0, none⟩) (Nat.lt_of_lt_of_le hBn.1 hn₀)).trans hc2) h0
/-- A string's bytes, laid as a row. -/
theorem conv_bytes2 (W : World) (s : ByteArray) : ∃ W1 cap C n, (convert 9 100 (.string s)).run Tryd.prog W = .ok (.slice (some ⟨W.heap.size, 0, none⟩) s.size cap) W1 ∧ Below W.heap.size W W1 ∧ W1.heap.size = W.heap.size + 1 ∧ s.size ≤ cap ∧
    W1.heap[W.heap.size]? = some (.cells C 5 (n, n + 1)) ∧ s.size ≤ n ∧ ∀ j, j < s.size → C[j]? = some (.int .u8 ((s.data.toList.getD j 0).toNat : Int)) := by
  refine ⟨_, _, _, _, Lib.run_convert_string_bytes (P := Tryd.prog) W 9 100 5 s und_string' und_bytes und_u8', ?_, Lib.bytesWorld_size W _ s, ?_, Lib.bytesWorld_at_new W _ s, ?_, ?_⟩
  · exact ⟨rfl, rfl, rfl, by rw [Lib.bytesWorld_size]; omega, fun k hk => Lib.bytesWorld_at_old W _ s k hk⟩
  · exact grownCap_ge _ _ _ _
  · simp [Lib.bytesCells]
  · intro j hj
    have hj' : j < s.data.size := hj
    simp [Lib.bytesCells, Array.getElem?_append, hj, List.getD_eq_getElem?_getD]
theorem und_strs0 : Tryd.prog.underlying 63 = some (.slice 9) := by kernel_rfl
theorem info_str : (Tryd.prog.info? 9).map (fun i => (i.zero, i.size, i.bytes)) = some (some (.string ⟨#[]⟩), 1, 16) := by kernel_rfl
def strCells' (l : List ByteArray) : List Value := l.map Value.string
set_option maxHeartbeats 4000000 in
theorem cut_in (s : ByteArray) (hs : s.size ≤ 1000000000000) (w : World) :
    CallsIn Fence.wide 6 Tryd.prog 29 #[.string s] w fun e w' => ∃ v, e = .returned v ∧ w'.ownsRow w.heap.size 9 1 v (cutS s).length (strCells' (cutS s)) ∧ Below w.heap.size w w' := by
  have hro : Fence.wide.round = none := rfl
  obtain ⟨i0, hi, hz0, hz1, hz2⟩ := info_parts info_str
  refine callsIn_of_wp_marks Tryd.func29 rfl trivial ?_ hro
  simp only [Tryd.ntmps29, List.size_toArray, List.length_cons, List.length_nil, Nat.reduceAdd, Nat.reduceSub, Array.replicate_succ, Array.replicate_zero, List.push_toArray, List.append_toArray, List.nil_append, List.cons_append]
  have bO := Boxed.new w 63 (.slice none 0 0)
  obtain ⟨w2, cap, C, nz, hrun, hb2, hsz2, hcap, hblk, hC1, hC2⟩ := conv_bytes2 (w.alloc (.cells #[.slice none 0 0] 63)) s
  rw [World.size_alloc] at hrun hsz2 hblk hb2
  gi_wp2_with (refine ⟨trivial, ?_⟩; gi_at_call 71; refine (chunk0_in _ _ _ _ _).mono ?_; rintro e w' ⟨rfl, rfl⟩)
  have bO2 : Boxed w2 w.heap.size 63 (.slice none 0 0) := (hb2.block _ (by omega)).trans bO
  have bS := Boxed.new w2 100 (.slice (some ⟨w.heap.size + 1, 0, none⟩) s.size cap)
  have bN := Boxed.new (w2.alloc (.cells #[.slice (some ⟨w.heap.size + 1, 0, none⟩) s.size cap] 100)) 3 (.int .i64 400)
  have hb0 : Below w.heap.size w w2 := ((Below.refl _ w).alloc (Nat.le_refl _) _).trans (hb2.mono (by omega))
  have bS4 := bS.alloc (.cells #[.int .i64 400] 3)
  have bO4 := (bO2.alloc (.cells #[.slice (some ⟨w.heap.size + 1, 0, none⟩) s.size cap] 100)).alloc (.cells #[.int .i64 400] 3)
  have hB4 : Below w.heap.size w ((w2.alloc (.cells #[.slice (some ⟨w.heap.size + 1, 0, none⟩) s.size cap] 100)).alloc (.cells #[.int .i64 400] 3)) := (hb0.alloc (by omega) _).alloc (by simp; omega) _
  have hk4 : ((w2.alloc (.cells #[.slice (some ⟨w.heap.size + 1, 0, none⟩) s.size cap] 100)).alloc (.cells #[.int .i64 400] 3)).heap[w.heap.size + 1]? = some (.cells C 5 (nz, nz + 1)) := by
    rw [Below.heap_alloc _ _ _ (by simp; omega), Below.heap_alloc _ _ _ (by omega)]; exact hblk
  have hs4 : ((w2.alloc (.cells #[.slice (some ⟨w.heap.size + 1, 0, none⟩) s.size cap] 100)).alloc (.cells #[.int .i64 400] 3)).heap.size = w.heap.size + 4 := by simp; omega
  rw [World.size_alloc, hsz2] at bN
  rw [hsz2] at bS4
  generalize (w2.alloc (.cells #[.slice (some ⟨w.heap.size + 1, 0, none⟩) s.size cap] 100)).alloc (.cells #[.int .i64 400] 3) = w4 at *
  clear hrun bO bO2 bS hb2 hblk hb0
  have hcs : ∀ k, ∀ W : World, Kq w.heap.size (w.heap.size + 4) w4 W → Src W (.slice (some ⟨w.heap.size + 1, 400 * k, none⟩) (min 400 (s.size - 400 * k)) (min 400 (s.size - 400 * k))) (cutAt s k).data.toList := by
    intro k W hW
    refine ⟨_, min 400 (s.size - 400 * k), by rw [← cutAt_size, Lib.size_eq], .inr ⟨_, rfl, fun j x hx => ?_⟩⟩
    have hjl : j < (cutAt s k).size := by
      have := (List.getElem?_eq_some_iff.1 hx).1
      rw [cellsOf_length] at this
      rwa [Lib.size_eq]
    have hj2 := cutAt_size s k
    rw [show (Addr.add ⟨w.heap.size + 1, 400 * k, none⟩ j : Addr) = ⟨w.heap.size + 1, 400 * k + j, none⟩ by simp [Addr.add], cell_same (hW.block _ (by omega) (by omega))]
    simp only [World.cell?, hk4]
    rw [hC2 (400 * k + j) (by omega), ← hx]
    unfold cellsOf cutAt
    have hjl2 : 400 * k + j < s.data.toList.length := by rw [← Lib.size_eq]; omega
    have he : (s.extract (400 * k) (400 * k + 400)).data.toList = (s.data.toList.drop (400 * k)).take (400 * k + 400 - 400 * k) := by
      rw [mk_data s, extract_mk]
    rw [he, List.getElem?_map, List.getElem?_take_of_lt (by omega), List.getElem?_drop, List.getElem?_eq_getElem hjl2, List.getD_eq_getElem?_getD, List.getElem?_eq_getElem hjl2]
    try rfl
  refine wpIn_rangeFunc_ownH hro (by omega) (gf := 109) (lb := #[.pointer (some ⟨w.heap.size + 1 + 1, 0, none⟩), .pointer (some ⟨w.heap.size + 1 + 1 + 1, 0, none⟩)]) rfl trivial (enters_of Tryd.func109 (by kernel_rfl) rfl)
    (chunk_stops _ (by omega) w.heap.size (w.heap.size + 1 + 1) (w.heap.size + 1 + 1 + 1) (w.heap.size + 4) (w.heap.size + 1) s.size cap _ hs hcap w4 (by omega) (by omega) (by omega) (fun _ => rfl) bS4.cell bN.cell) Kq.trans (kq_b (by omega)) (Below.refl _ _) (fun _ => rfl)
    (fun (pre : List Nat) W => (∃ v, Boxed W w.heap.size 63 v ∧ W.ownsRow (w.heap.size + 4) 9 1 v pre.length (strCells' (pre.map (cutAt s))) ∧ True) ∧ Kq w.heap.size (w.heap.size + 4) w4 W)
    (fun _ _ _ => False)
    (OwnFrom.and (Own.from (holdsRow_own (w.heap.size + 4) w.heap.size 63 9 1 (fun (pre : List Nat) => pre.length) (fun (pre : List Nat) => strCells' (pre.map (cutAt s))) (fun _ _ => True)) _) (ownFrom_kq (by omega) (by omega)))
    (fun _ _ _ _ _ hs _ _ => hs)
    ⟨⟨_, bO4, World.ownsRow_nil _ _ _ _, trivial⟩, Kq.refl _ _ _⟩
    (fun x a' W => a' = { tmps := #[.string s, undef, .slice none 0 0, .pointer (some ⟨w.heap.size, 0, none⟩), .slice (some ⟨w.heap.size + 1, 400 * x, none⟩) (min 400 (s.size - 400 * x)) (min 400 (s.size - 400 * x)), .string s, .slice (some ⟨w.heap.size + 1, 0, none⟩) s.size cap, .func (.func 109) #[] #[.pointer (some ⟨w.heap.size + 1 + 1, 0, none⟩), .pointer (some ⟨w.heap.size + 1 + 1 + 1, 0, none⟩)], .slice (some ⟨w.heap.size + 1, 400 * x, none⟩) (min 400 (s.size - 400 * x)) (min 400 (s.size - 400 * x)), undef, undef, undef, undef, undef, undef], defers := [] })
    (fun x a' _ X Y row hs hg hr => hs)
    ?assign ?body ?done ?stop
  case assign =>
    intro l pre x W K hI hK
    dsimp only [encC]
    gi_wp2
    exact hK _ _ ((KeepsOthers.refl _).from _) (Kq.refl _ _ _) hI rfl
  case body =>
    rintro l pre x a' W hl hlo ⟨⟨v, hv, hrow, _⟩, hK⟩ rfl hlt
    have hc := hv.cell
    have hws := hK.size
    have hstr := run_str (hcs x W hK)
    rw [← mk_data] at hstr
    have hcn : cutN s.size ≤ 2500000001 := by unfold cutN; omega
    gi_wp2_with (gi_at_builtin; refine wpListIn_append_own _ rfl _ _ 63 rfl (w.heap.size + 4) 9 i0 (.string ⟨#[]⟩) 1 16 und_strs0 hi hz0 hz1 hz2 rfl (by decide) _ _ _ rfl (hrow.alloc _) ⟨W.heap.size, 0, none⟩ 1 1 [.string (cutAt s x)] rfl rfl (cell_one_new _ _ _) (by simp [Value.oneCell']) (by unfold maxLen; omega) (by omega) (by simp; omega) ?_; intro v' w1 hown' hgrow _; obtain ⟨g', cap', rfl⟩ := ownsRow_succ hown'; obtain ⟨hv1, hv2, hr2, hk2, hb2⟩ := appended_kq hv (by decide) hrow (by omega) hown' hgrow; have hc1 := hv1.cell; have hf1 := hv1.frozen)
    exact ⟨hk2.from _, hb2, ⟨_, hv2, by simpa [strCells'] using hr2, trivial⟩, hK.trans hb2⟩
  case done =>
    rintro D xs W hD rfl ⟨⟨v, hv, hrow, _⟩, hK⟩ hDW
    have hc := hv.cell
    gi_wp2
    refine ⟨by simp, .inl ⟨_, _, rfl, run_takeDeferred hDW, ?_⟩⟩
    refine ⟨_, results_tmp rfl _ _ _, v, rfl, ?_, ?_⟩
    · have h1 := ownsRow_putObj hrow (.deferred none) hDW rfl
      rw [show (List.range (cutN s.size)).map (cutAt s) = cutS s from rfl, show (List.range (cutN s.size)).length = (cutS s).length by simp [cutS]] at h1
      exact ⟨h1.1, h1.2.imp id (fun ⟨g, cp, cur, e1, e2, e3⟩ => ⟨g, cp, cur, e1, Nat.le_trans (by omega) e2, e3⟩)⟩
    · have hb : Below w.heap.size w W := by
        refine ⟨hK.os.trans hB4.os, hK.tape.trans hB4.tape, hK.output.trans hB4.output, Nat.le_trans hB4.size hK.size, fun k hk => (hK.block k (by omega) (by omega)).trans (hB4.block k hk)⟩
      exact hb.trans (belowK_b (w := w) (Nat.le_refl _) W D _ _ (by omega) hDW rfl rfl)
  case stop =>
    rintro D c pre W hD _ hF
    exact hF.elim
theorem cut_any (s : ByteArray) (hs : s.size ≤ 1000000000000) (w : World) :
    Calls Tryd.prog 29 #[.string s] w fun e w' => ∃ v, e = .returned v ∧ w'.ownsRow w.heap.size 9 1 v (cutS s).length (strCells' (cutS s)) ∧ Below w.heap.size w w' :=
  callsIn_wide.1 (cut_in s hs w)
end Go.Proofs.YtiknfifiglooeaaDoor
