/- A record's bytes in a row, four beside one another turned: what Get answers then. No conditions beyond those in each statement. -/
import Derived.Test.YtpjbkeheemhlnaaDoorInvar2
namespace Go.Proofs.YtpjbkeheemhlnaaDoor
open Go.RowKit
set_option linter.unusedVariables false
set_option maxRecDepth 100000

theorem i64_and65535 (n : Int) : bits .and .i64 n 65535 = n % 65536 := by
  have h127 : (BitVec.ofInt 64 65535).toNat = 2 ^ 16 - 1 := by decide
  have key : (BitVec.ofInt 64 n &&& BitVec.ofInt 64 65535).toNat = (n % ((2 ^ 64 : Nat) : Int)).toNat % 2 ^ 16 := by
    rw [BitVec.toNat_and, BitVec.toNat_ofInt, h127, Nat.and_two_pow_sub_one_eq_mod]
  show IntKind.i64.wrap ((BitVec.ofInt 64 n &&& BitVec.ofInt 64 65535).toNat : Nat) = n % 65536
  rw [key, IntKind.wrap_i64]
  omega
/-- The row of the bytes. -/
def RowIs (w : World) (g M : Nat) (L : List UInt8) (Z : List Value) : Prop := w.heap[g]? = some (.cells (cellsOf L ++ Z).toArray 5 (M, M + 1))
theorem RowIs.cell {w : World} {g M : Nat} {L : List UInt8} {Z : List Value} (h : RowIs w g M L Z) (i : Nat) (hi : i < L.length) : w.cell? ⟨g, i, none⟩ = some (.int .u8 ((L.getD i 0).toNat : Int)) := by
  unfold RowIs at h
  simp [World.cell?, h, cellsOf, List.getElem?_append, hi]
theorem RowIs.free {w : World} {g M : Nat} {L : List UInt8} {Z : List Value} (h : RowIs w g M L Z) (i : Nat) (hi : i < M) : w.frozen? ⟨g, i, none⟩ = false := by
  unfold RowIs at h
  simp [World.frozen?, h]
  omega
theorem RowIs.set {w : World} {g M : Nat} {L : List UInt8} {Z : List Value} (h : RowIs w g M L Z) (i : Nat) (hi : i < L.length) (c : UInt8) : RowIs (w.setCell ⟨g, i, none⟩ (.int .u8 (c.toNat : Int))) g M (L.set i c) Z := by
  have hlt := lt_of_block h
  have h2 : w.heap[g]? = some (.cells (cellsOf L ++ Z).toArray 5 (M, M + 1)) := h
  have h' : w.heap[g] = .cells (cellsOf L ++ Z).toArray 5 (M, M + 1) := by simpa [Array.getElem?_eq_getElem hlt] using h2
  show (w.heap.modify g _)[g]? = _
  rw [Array.getElem?_eq_getElem (by simpa using hlt), Array.getElem_modify_self, h']
  have e : (cellsOf L ++ Z).toArray.setIfInBounds i (.int .u8 (c.toNat : Int)) = (cellsOf (L.set i c) ++ Z).toArray := by
    rw [List.setIfInBounds_toArray, List.set_append_left _ _ (by rw [cellsOf_length]; exact hi)]
    unfold cellsOf
    rw [List.map_set]
  simp [e]
theorem RowIs.src {w : World} {g M : Nat} {L : List UInt8} {Z : List Value} (h : RowIs w g M L Z) (c : Nat) : Src w (.slice (some ⟨g, 0, none⟩) L.length c) L := by
  refine ⟨_, c, rfl, .inr ⟨_, rfl, fun j x hx => ?_⟩⟩
  have hj : j < L.length := by
    have := (List.getElem?_eq_some_iff.1 hx).1
    rwa [cellsOf_length] at this
  rw [show (Addr.add ⟨g, 0, none⟩ j : Addr) = ⟨g, j, none⟩ by simp [Addr.add]; omega]
  unfold RowIs at h
  simp only [World.cell?, h]
  rw [← hx]
  simp [List.getElem?_append, cellsOf_length, hj]
theorem RowIs.below {w w' : World} {g M : Nat} {L : List UInt8} {Z : List Value} (h : RowIs w g M L Z) (k : Below w.heap.size w w') : RowIs w' g M L Z := (k.block g (lt_of_block h)).trans h

theorem get_turned {r : Rc} (h : r.Ok) (j tn : Nat) (hj : 4 * j + 4 ≤ r.bytes.size) (ht : tn ≠ 0) (ht2 : tn < 4294967296) : getF ⟨(turnL r.bytes.data.toList (4 * j) tn 4).toArray⟩ = (rc0, 2) := by
  have hs := bytes_size h
  have hl := enc_length h
  refine get_closed (by rw [size_mk, turnL_length, ← Lib.size_eq]; omega) ?_
  rw [data_mk, bytes_list]
  rcases j with _ | j
  · exact opens_turned_sum r.enc tn ht ht2
  · rw [show 4 * (j + 1) = 4 + 4 * j by omega]
    exact opens_turned_text r.enc (4 * j) tn (by omega) ht ht2
end Go.Proofs.YtpjbkeheemhlnaaDoor
