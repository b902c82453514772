/- What MsgLimits leans on. No conditions beyond those in each statement. -/
import Derived.Test.YtddkbninkncbeaaMHead
namespace Go.Proofs.Ytddkbninkncbeaa
open Go.RowKit
set_option linter.unusedVariables false
set_option linter.unusedSimpArgs false
set_option maxRecDepth 100000
theorem wrapu (z : Int) : IntKind.u64.wrap z = z % 18446744073709551616 := by
  simp [IntKind.wrap, IntKind.bits, IntKind.signed]
theorem pick8 (z : Int) (P : Prop) (h : ∀ q : Nat, q < 8 → wrap64 ((IntKind.u64.wrap z).tmod 8) = (q : Int) → P) : P := by
  have hw := wrapu z
  have h0 : 0 ≤ IntKind.u64.wrap z := by omega
  have ht : (IntKind.u64.wrap z).tmod 8 = IntKind.u64.wrap z % 8 := Int.tmod_eq_emod_of_nonneg h0
  refine h ((IntKind.u64.wrap z) % 8).toNat (by omega) ?_
  have e : (((IntKind.u64.wrap z % 8).toNat : Nat) : Int) = IntKind.u64.wrap z % 8 := by omega
  rw [ht, e]
  unfold wrap64
  omega
theorem i64_and1 (n : Int) : bits .and .i64 n 1 = n % 2 := by
  have h127 : (BitVec.ofInt 64 1).toNat = 2 ^ 1 - 1 := by decide
  have key : (BitVec.ofInt 64 n &&& BitVec.ofInt 64 1).toNat = (n % ((2 ^ 64 : Nat) : Int)).toNat % 2 ^ 1 := by
    rw [BitVec.toNat_and, BitVec.toNat_ofInt, h127, Nat.and_two_pow_sub_one_eq_mod]
  show IntKind.i64.wrap ((BitVec.ofInt 64 n &&& BitVec.ofInt 64 1).toNat : Nat) = n % 2
  rw [key, IntKind.wrap_i64]
  omega
theorem MgB.putx {x : World} {b k : Nat} {u v t u' v' : Value} {m m' : Mg} (h : MgB x b u v m) (hk : (mgA u v m).setIfInBounds k t = mgA u' v' m') : MgB (x.setCell ⟨b, k, none⟩ t) b u' v' m' := by
  unfold MgB at h ⊢
  have h0 := block_setCell (i := k) (u := t) h
  rw [hk] at h0
  exact h0
theorem readM_nil : readM [] = (Mg.zero, 2) := by rfl
def zs (n : Nat) : ByteArray := ⟨(List.replicate n (0 : UInt8)).toArray⟩
theorem zs_size (n : Nat) : (zs n).size = n := by simp [zs, ByteArray.size]
def zcells (n : Nat) : Array Value := (List.replicate n (.int .u8 0)).toArray
def ecells (n : Nat) : Array Value := (cellsK entOne (List.replicate n Ent.zero)).toArray
theorem make_bytes (n : Nat) (hn : n ≤ 1000) : ∀ W : World, (Instr.makeSlice 35 (.int .i64 (n : Int)) (.int .i64 (n : Int))).run Try.prog W = .ok (.slice (some ⟨W.heap.size, 0, none⟩) n n) (W.alloc (.cells (zcells n) 5)) := fun W => by
  obtain ⟨i0, hi, hz0, hz1, hz2⟩ := info_parts info_u8
  have h := run_make (P := Try.prog) W 35 5 i0 _ und_bytes hi hz0 .i64 .i64 (n : Int) (n : Int) (by omega) (by omega) (by rw [hz2]; omega) (by omega)
  rw [Int.toNat_natCast, hz1, Nat.mul_one] at h
  rw [h]
  have e : madeCells (Value.int .u8 0).cells n = zcells n := by
    unfold zcells
    apply Array.ext
    · simp [madeCells]
    · intro i h1 h2
      simp [madeCells, Value.cells, Nat.mod_one]
  rw [e]
theorem make_ents (n : Nat) (hn : n ≤ 1000) (hm : madeCells (entV Ent.zero).cells (n * 3) = ecells n) : ∀ W : World, (Instr.makeSlice 23 (.int .i64 (n : Int)) (.int .i64 (n : Int))).run Try.prog W = .ok (.slice (some ⟨W.heap.size, 0, none⟩) n n) (W.alloc (.cells (ecells n) 39)) := fun W => by
  obtain ⟨i0, hi, hz0, hz1, hz2⟩ := info_parts info_en
  have h := run_make (P := Try.prog) W 23 39 i0 _ und_ens hi hz0 .i64 .i64 (n : Int) (n : Int) (by omega) (by omega) (by rw [hz2]; omega) (by omega)
  rw [Int.toNat_natCast, hz1, hm] at h
  exact h
theorem ents_made (W : World) (n : Nat) (hn : n ≤ 1000) : EnsR (W.alloc (.cells (ecells n) 39)) (.slice (some ⟨W.heap.size, 0, none⟩) n n) (List.replicate n Ent.zero) := by
  have hr : ERow (W.alloc (.cells (ecells n) 39)) 0 (.slice (some ⟨W.heap.size, 0, none⟩) n n) (List.replicate n Ent.zero) := by
    refine ⟨by rw [cellsK_len entOne_len], .inr ⟨W.heap.size, n, _, by rw [List.length_replicate], Nat.zero_le _, heap_alloc_new W _, by rw [List.length_replicate]; exact Nat.le_refl _, by unfold maxLen; omega, ?_, ?_⟩⟩
    · unfold ecells; rw [List.size_toArray, cellsK_len entOne_len, List.length_replicate]
    · unfold ecells
      rw [List.take_of_length_le]
      rw [List.toList_toArray, cellsK_len entOne_len]; exact Nat.le_refl _
  refine ERow.ensR hr (by rw [List.length_replicate]; unfold maxLen; omega) (fun x hx => ?_)
  rw [List.eq_of_mem_replicate hx]
  exact ⟨by unfold InR Ent.zero; decide, by unfold InR Ent.zero; decide, by unfold Ent.zero maxLen; decide⟩
theorem size_set (W : World) (p : Addr) (u : Value) : (W.setCell p u).heap.size = W.heap.size := by simp [World.setCell]
theorem zs_row (W : World) (n : Nat) : (convert 35 9 (.slice (some ⟨W.heap.size, 0, none⟩) n n)).run Try.prog (W.alloc (.cells (zcells n) 5)) = .ok (.string (zs n)) (W.alloc (.cells (zcells n) 5)) := by
  have h : Src (W.alloc (.cells (zcells n) 5)) (.slice (some ⟨W.heap.size, 0, none⟩) n n) (List.replicate n (0 : UInt8)) := by
    refine ⟨some ⟨W.heap.size, 0, none⟩, n, by rw [List.length_replicate], .inr ⟨_, rfl, fun j x hx => ?_⟩⟩
    have hj : j < n := by
      have := (List.getElem?_eq_some_iff.1 hx).1
      rwa [cellsOf_length, List.length_replicate] at this
    have hx' : x = .int .u8 0 := by
      simp [cellsOf, hj] at hx
      exact hx.symm
    have h1 := heap_alloc_new W (.cells (zcells n) 5)
    generalize W.alloc (.cells (zcells n) 5) = V at h1
    rw [show (Addr.add ⟨W.heap.size, 0, none⟩ j : Addr) = ⟨W.heap.size, j, none⟩ by simp [Addr.add]; omega]
    have h2 : (zcells n)[j]? = some (.int .u8 0) := by simp [zcells, hj]
    simp only [World.cell?, h1, h2, hx']
    simp
  exact run_str h
def mgL : Mg := { Mg.zero with kd := 6 }
end Go.Proofs.Ytddkbninkncbeaa
