/- strings.SplitSeq at a slash: the pieces. No conditions beyond those in each statement. -/
import Derived.Test.YtbbdokfankgllaaDoorRangeBox
import Derived.Test.YtbbdokfankgllaaDoorPathFns
import Derived.RangeFuncBox
import Derived.OwnWalkIn
import Derived.TacticsInMore
import Derived.LoopNIn
import Derived.LoopIn
import Derived.Maps.AppendAt
import Derived.Sort.QuietIn
namespace Go.Proofs.YtbbdokfankgllaaDoor
open Go.RowKit Go.Shelf
set_option linter.unusedVariables false
set_option maxRecDepth 100000
attribute [local go_sem] Oper.semAt_some

def cellLen : Option Value → Nat
  | some (.string s) => s.size
  | _ => 0
theorem cellp_of {w w' : World} {g i : Nat} (h : w'.heap[g]? = w.heap[g]?) : w'.cell? ⟨g, i, none⟩ = w.cell? ⟨g, i, none⟩ := by simp only [World.cell?, h]
theorem frozenp_of {w w' : World} {g i : Nat} (h : w'.heap[g]? = w.heap[g]?) : w'.frozen? ⟨g, i, none⟩ = w.frozen? ⟨g, i, none⟩ := by simp only [World.frozen?, h]
theorem bset {w : World} {b i : Nat} {vs : Array Value} {u : Value} {t : TypeId} {m : Nat × Nat} (h : w.heap[b]? = some (.cells vs t m)) :
    (w.setCell ⟨b, i, none⟩ u).heap[b]? = some (.cells (vs.setIfInBounds i u) t m) := by
  have hlt := (Array.getElem?_eq_some_iff.1 h).1
  have h' : w.heap[b] = .cells vs t m := by simpa [Array.getElem?_eq_getElem hlt] using h
  show (w.heap.modify b _)[b]? = _
  rw [Array.getElem?_eq_getElem (by simpa using hlt), Array.getElem_modify_self, h']
  rfl
theorem bset_other {w : World} {b k i : Nat} {u : Value} (h : k ≠ b) : (w.setCell ⟨b, i, none⟩ u).heap[k]? = w.heap[k]? := Below.heap_setCell w ⟨b, i, none⟩ u k h
/-- The three boxes of the iterator. -/
structure Bx (Be Bs Bv : Nat) (rest : List UInt8) (w : World) : Prop where
  e : w.heap[Be]? = some (.cells #[.string (bs [47])] 9 (0, 0))
  s : w.heap[Bs]? = some (.cells #[.string (bs rest)] 9 (0, 0))
  v : w.heap[Bv]? = some (.cells #[.int .i64 0] 3 (0, 0))
theorem Bx.below {Be Bs Bv n₀ : Nat} {rest : List UInt8} {w w' : World} (h : Bx Be Bs Bv rest w) (hb : Below n₀ w w') (h1 : Be < n₀) (h2 : Bs < n₀) (h3 : Bv < n₀) : Bx Be Bs Bv rest w' :=
  ⟨(hb.block _ h1).trans h.e, (hb.block _ h2).trans h.s, (hb.block _ h3).trans h.v⟩
theorem Bx.facts {Be Bs Bv : Nat} {rest : List UInt8} {w : World} (h : Bx Be Bs Bv rest w) : w.cell? ⟨Be, 0, none⟩ = some (.string (bs [47])) ∧ w.cell? ⟨Bs, 0, none⟩ = some (.string (bs rest)) ∧ w.cell? ⟨Bv, 0, none⟩ = some (.int .i64 0) ∧ w.frozen? ⟨Bs, 0, none⟩ = false := by
  obtain ⟨h1, h2, h3⟩ := h
  simp [World.cell?, World.frozen?, h1, h2, h3]
theorem Bx.drewN {Be Bs Bv : Nat} {rest : List UInt8} {w : World} (h : Bx Be Bs Bv rest w) (n : Nat) : Bx Be Bs Bv rest (w.drewN n) := ⟨h.e, h.s, h.v⟩
theorem Bx.set {Be Bs Bv : Nat} {rest : List UInt8} {w : World} (h : Bx Be Bs Bv rest w) (r : List UInt8) (h1 : Be ≠ Bs) (h3 : Bv ≠ Bs) : Bx Be Bs Bv r (w.setCell ⟨Bs, 0, none⟩ (.string (bs r))) :=
  ⟨(bset_other h1).trans h.e, by have := bset (i := 0) (u := Value.string (bs r)) h.s; exact this, (bset_other h3).trans h.v⟩
theorem drewN_grown (w : World) (n : Nat) (r : Option Nat) : w.grownBy (w.drewN n) r := ⟨rfl, rfl, rfl, Nat.le_refl _, fun _ _ _ => rfl⟩

set_option maxHeartbeats 4000000 in
theorem split1_in (n : Nat) (hn : 1 ≤ n) (l Be Bs Bv n₀ : Nat) (s0 : List UInt8) (hlen : s0.length ≤ 1000000) (he : Be < n₀ ∧ Be ≠ Bs) (hs : Bs < n₀) (hv : Bv < n₀ ∧ Bv ≠ Bs) (J Jx : List (List UInt8) → World → Prop)
    (hJg : ∀ s A B, J s A → A.grownBy B (some Bs) → J s B)
    (hY : ∀ pre x W, J pre W → YieldAt Fence.wide (n - 1) Tryd.prog l #[.string (bs x)] W fun e W' =>
      (e = .returned (.bool true) ∧ J (pre ++ [x]) W' ∧ Below n₀ W W') ∨ (e = .returned (.bool false) ∧ Jx (pre ++ [x]) W'))
    (W : World) (hB : Bx Be Bs Bv s0 W) (h0 : J [] W) :
    CallsIn Fence.wide n Tryd.prog 66 #[.func (.yield l) #[] #[], .pointer (some ⟨Be, 0, none⟩), .pointer (some ⟨Bs, 0, none⟩), .pointer (some ⟨Bv, 0, none⟩)] W fun e W' => (∃ v, e = .returned v) ∧
      ((∃ ys, ys = pieces s0 ∧ J ys W') ∨ (∃ pre, (∃ suf, pre ++ suf = pieces s0) ∧ Jx pre W')) := by
  refine callsIn_of_wp Tryd.func66 rfl trivial ?_ rfl
  simp only [Tryd.ntmps66, List.size_toArray, List.length_cons, List.length_nil, Nat.reduceAdd, Nat.reduceSub, Array.replicate_succ, Array.replicate_zero, List.push_toArray, List.append_toArray, List.nil_append, List.cons_append]
  obtain ⟨c1, c2, c3, f2⟩ := hB.facts
  have z1 : (bs [47]).size = 1 := by decide
  gi_wp2
  gi_loopw [7, 8] (fun i f wr => ∃ (pre : List (List UInt8)) (rest : List UInt8), pre ++ pieces rest = pieces s0 ∧ rest.length ≤ s0.length ∧ Bx Be Bs Bv rest wr ∧ J pre wr)
    (fun _ _ wr => cellLen (wr.cell? ⟨Bs, 0, none⟩))
  case atStart => exact ⟨[], s0, rfl, Nat.le_refl _, hB, h0⟩
  case round =>
    obtain ⟨pre, rest, hpp, hrl, hBr, hJr⟩ := hrel
    clear c1 c2 c3 f2
    obtain ⟨c1, c2, c3, f2⟩ := hBr.facts
    have HI := Lib.hid (fun W : World => Tryd.strings_Index_one (bs rest) 47 W)
    by_cases hin : 0 ≤ Lib.indexByte rest 47
    · obtain ⟨k, hk, hkl, hkn, hks⟩ := index_some rest hin
      have HK := Lib.hid hk
      have hpc := pieces_at rest k hkn hks
      have HP := Lib.hid hpc
      have zr : (bs rest).size = rest.length := bs_size rest
      have k1 : k < (bs rest).size := by rw [zr]; exact hkl
      have k2 : (k : Int) < ((bs rest).size : Int) := by omega
      have k3 : (bs rest).size ≤ 1000000 := by omega
      have HZ := Lib.hid zr
      clear hin hk hkn hks hpc zr
      have hex : (bs rest).extract 0 k = bs (rest.take k) := by
        have := ext_pre (rest.take k) (rest.drop k) k (by rw [List.length_take]; omega)
        rwa [List.take_append_drop] at this
      have hex2 : (bs rest).extract (k + 1) (bs rest).size = bs (rest.drop (k + 1)) := by
        have := ext_suf (rest.take (k + 1)) (rest.drop (k + 1)) (k + 1) (bs rest).size (by rw [List.length_take]; omega) (by rw [List.take_append_drop, bs_size]; exact Nat.le_refl _)
        rwa [List.take_append_drop] at this
      obtain ⟨fn, tmps, assign, body, hy, hR⟩ := hY pre (rest.take k) wr hJr
      rw [← hex] at hy
      have HE2 := Lib.hid hex2
      clear hex hex2
      gi_wp2_with (refine ⟨trivial, ?_⟩; gi_at_call 68; refine (callsIn_wide.2 (HI.out _)).mono ?_; rintro e w' ⟨rfl, rfl⟩; rw [bs_list, HK.out])
      refine hR.mono ?_
      rintro e W3 (⟨rfl, hJ3, hb3⟩ | ⟨rfl, hJx3⟩)
      · have hB3 := hBr.below hb3 he.1 hs hv.1
        clear c1 c2 c3 f2
        obtain ⟨c1, c2, c3, f2⟩ := hB3.facts
        have hm : cellLen (W3.cell? ⟨Bs, 0, none⟩) = (bs rest).size := by rw [c2]; rfl
        gi_wp2_with fail
        rw [HE2.out]
        go_roundw
        case rel => exact ⟨pre ++ [rest.take k], rest.drop (k + 1), by rw [List.append_assoc, List.singleton_append, ← HP.out, hpp], by rw [List.length_drop]; omega, hB3.set _ he.2 hv.2, hJg _ _ _ hJ3 (grownBy_setCell' _ _ _)⟩
        case measure =>
          rw [(hB3.set (rest.drop (k + 1)) he.2 hv.2).facts.2.1, hBr.facts.2.1]
          show (bs (rest.drop (k + 1))).size < (bs rest).size
          rw [bs_size, bs_size, List.length_drop]; omega
      · gi_wp2_with fail
        refine bodyPost_ret (results_none rfl _ _ _) rfl ?_
        exact ⟨⟨_, rfl⟩, .inr ⟨_, ⟨pieces (rest.drop (k + 1)), by rw [List.append_assoc, List.singleton_append, ← HP.out, hpp]⟩, hJx3⟩⟩
    · have hnone := index_none rest (by omega)
      have HN := Lib.hid hnone
      obtain ⟨fn, tmps, assign, body, hy, hR⟩ := hY pre rest wr hJr
      have d1 : decide (Lib.indexByte rest 47 < 0) = true := by simp; omega
      clear hin hnone
      gi_wp2_with (refine ⟨trivial, ?_⟩; gi_at_call 68; refine (callsIn_wide.2 (HI.out _)).mono ?_; rintro e w' ⟨rfl, rfl⟩; rw [bs_list, HN.out.2])
      refine hR.mono ?_
      rintro e W3 (⟨rfl, hJ3, hb3⟩ | ⟨rfl, hJx3⟩)
      · gi_wp2_with fail
        go_end0
        refine ⟨⟨_, rfl⟩, .inl ⟨_, ?_, hJ3⟩⟩
        rw [← hpp, pieces_none rest HN.out.1]
      · gi_wp2_with fail
        go_end0
        exact ⟨⟨_, rfl⟩, .inr ⟨_, ⟨[], by rw [← hpp, pieces_none rest HN.out.1, List.append_nil]⟩, hJx3⟩⟩

theorem split_box (n : Nat) (hn : 1 ≤ n) (Be Bs Bv : Nat) (s0 : List UInt8) (hlen : s0.length ≤ 1000000) (w : World) (he : Be < w.heap.size ∧ Be ≠ Bs) (hs : Bs < w.heap.size) (hv : Bv < w.heap.size ∧ Bv ≠ Bs) (hB : Bx Be Bs Bv s0 w) :
    SeqBox Fence.wide n Tryd.prog 66 #[.pointer (some ⟨Be, 0, none⟩), .pointer (some ⟨Bs, 0, none⟩), .pointer (some ⟨Bv, 0, none⟩)] (fun x : List UInt8 => #[.string (bs x)]) (Below w.heap.size) (fun ys => ys = pieces s0) (fun pre => ∃ suf, pre ++ suf = pieces s0) Bs w :=
  fun l J Jx W hW hJ _ hY h0 => split1_in n hn l Be Bs Bv w.heap.size s0 hlen he hs hv J Jx hJ hY W (hB.below hW he.1 hs hv.1) h0
set_option maxHeartbeats 1000000 in
theorem splitSeq_in (n : Nat) (s sep : ByteArray) (w : World) :
    CallsIn Fence.wide n Tryd.prog 59 #[.string s, .string sep, .int .i64 0] w fun e w' => e = .returned (.func (.func 66) #[] #[.pointer (some ⟨w.heap.size + 1, 0, none⟩), .pointer (some ⟨w.heap.size, 0, none⟩), .pointer (some ⟨w.heap.size + 2, 0, none⟩)]) ∧ w' = ((w.alloc (.cells #[.string s] 9)).alloc (.cells #[.string sep] 9)).alloc (.cells #[.int .i64 0] 3) := by
  refine callsIn_of_wp Tryd.func59 rfl trivial ?_ rfl
  simp only [Tryd.ntmps59, List.size_toArray, List.length_cons, List.length_nil, Nat.reduceAdd, Nat.reduceSub, Array.replicate_succ, Array.replicate_zero, List.push_toArray, List.append_toArray, List.nil_append, List.cons_append]
  gi_wp2
  go_ret
  exact ⟨rfl, rfl⟩
set_option maxHeartbeats 1000000 in
theorem splitSeq2_in (n : Nat) (hn : 1 ≤ n) (s sep : ByteArray) (w : World) :
    CallsIn Fence.wide n Tryd.prog 47 #[.string s, .string sep] w fun e w' => e = .returned (.func (.func 66) #[] #[.pointer (some ⟨w.heap.size + 1, 0, none⟩), .pointer (some ⟨w.heap.size, 0, none⟩), .pointer (some ⟨w.heap.size + 2, 0, none⟩)]) ∧ w' = ((w.alloc (.cells #[.string s] 9)).alloc (.cells #[.string sep] 9)).alloc (.cells #[.int .i64 0] 3) := by
  refine callsIn_of_wp Tryd.func47 rfl trivial ?_ rfl
  simp only [Tryd.ntmps47, List.size_toArray, List.length_cons, List.length_nil, Nat.reduceAdd, Nat.reduceSub, Array.replicate_succ, Array.replicate_zero, List.push_toArray, List.append_toArray, List.nil_append, List.cons_append]
  gi_wp2_with (refine ⟨trivial, ?_⟩; gi_at_call 59; refine (splitSeq_in _ _ _ _).mono ?_; rintro e w' ⟨rfl, rfl⟩)
  go_ret
  exact ⟨rfl, rfl⟩
end Go.Proofs.YtbbdokfankgllaaDoor
