/- Law 7's Text: some text of so many bytes. No conditions beyond those in each statement. -/
import Derived.Test.YtiknfifiglooeaaDoorChunkHu
import Derived.Laws.AppendOwn
namespace Go.Proofs.YtiknfifiglooeaaDoor
open Go.RowKit
set_option linter.unusedVariables false
set_option maxRecDepth 100000

set_option maxHeartbeats 4000000 in
theorem text7_any (n : Nat) (seed : Int) (hn : n ≤ 1000000) (w : World) :
    Calls Tryd.prog 28 #[.int .i64 (n : Int), .int .i64 seed] w fun e w' => ∃ s : ByteArray, e = .returned (.string s) ∧ s.size = n ∧ Below w.heap.size w w' := by
  obtain ⟨i0, hi, hz0, hz1, hz2⟩ := info_parts info_u8
  go_enter Tryd.func28, Tryd.ntmps28
  go_upto_region 2 with fail
  have R0 : Bs (w.alloc (.cells #[] 5)) w.heap.size (.slice (some ⟨w.heap.size, 0, none⟩) 0 0) [] := World.ownsRow_made w #[] 0 (Nat.le_refl _) (Nat.zero_le _) rfl
  have B0 := (Below.refl w.heap.size w).alloc (Nat.le_refl _) (.cells #[] 5)
  generalize w.alloc (.cells #[] 5) = w1 at R0 B0 ⊢
  go_upto_region 3 with fail
  generalize IntKind.u32.wrap (IntKind.u32.wrap (IntKind.u32.wrap seed * 2654435761) + 12345) = z0
  generalize (Value.slice (some ⟨w.heap.size, 0, none⟩) 0 0) = v0 at R0 ⊢
  go_wp2_with fail
  go_loopw [5, 6, 7] (fun v x i wr => ∃ k : Nat, k ≤ n ∧ i = .int .i64 (k : Int) ∧ (∃ z : Int, x = .int .u32 z) ∧ (∃ l : List UInt8, l.length = k ∧ Bs wr w.heap.size v l) ∧ Below w.heap.size w wr) (fun _ _ i _ => n - (intOf i).toNat)
  case atStart => exact ⟨0, Nat.zero_le _, rfl, ⟨_, rfl⟩, ⟨[], rfl, R0⟩, B0⟩
  case round =>
    obtain ⟨k, hk, rfl, ⟨z, rfl⟩, ⟨l, hl, Rk⟩, Bk⟩ := hrel
    clear R0 B0
    by_cases hlt : k < n
    · have hlt' : (k : Int) < (n : Int) := by omega
      have hk0 : (0 : Int) ≤ (k : Int) := by omega
      go_upto_region 7 with fail
      generalize IntKind.u32.wrap (IntKind.u32.wrap (z * 1664525) + 1013904223) = y
      have HB := Lib.hid Bk
      have hlen : l.length ≤ 1000000 := by omega
      unfold Bs at Rk
      go_wp2_with (at_builtin; refine wpList_append_own _ rfl _ _ 100 rfl w.heap.size 5 i0 (.int .u8 0) 1 1 und_bytes hi hz0 hz1 hz2 rfl (by decide) _ _ _ rfl (Rk.alloc _) ⟨wr.heap.size, 0, none⟩ 1 1 [_] rfl rfl (cell_one_new _ _ _) (by simp [Value.oneCell']) (by unfold maxLen; omega) (by omega) (by have := HB.out.size; simp; omega) ?_; intro v' w3 hown' hgrow _; go_frame)
      go_roundw
      case rel =>
        refine ⟨k + 1, by omega, by go_num, ⟨_, rfl⟩, ?_, ?_⟩
        · obtain ⟨c, hc⟩ : ∃ c : UInt8, (c.toNat : Int) = (z * 1664525 + 1013904223) % 4294967296 / 16777216 := ⟨UInt8.ofNat ((z * 1664525 + 1013904223) % 4294967296 / 16777216).toNat, by
            have h1 : (0 : Int) ≤ (z * 1664525 + 1013904223) % 4294967296 := Int.emod_nonneg _ (by decide)
            have h2 : (z * 1664525 + 1013904223) % 4294967296 < 4294967296 := Int.emod_lt_of_pos _ (by decide)
            simp
            omega⟩
          refine ⟨l ++ [c], by simp [hl], ?_⟩
          unfold Bs
          rw [cellsOf_append, List.length_append]
          rw [← hc] at hown'
          exact hown'
        · have hbA := (Below.refl wr.heap.size wr).alloc (Nat.le_refl _) (.cells #[.int .u8 ((z * 1664525 + 1013904223) % 4294967296 / 16777216)] 5)
          exact (HB.out.trans (hbA.mono HB.out.size)).grown hgrow (Nat.le_trans HB.out.size hbA.size) (fun j hj => (World.ownsRow.lt Rk j hj).1)
      case measure => simp [intOf]; omega
    · obtain rfl : k = n := by omega
      have hs := run_str Rk.src
      have HL := Lib.hid hl
      have HR := Lib.hid Rk
      clear hlt hl Rk
      go_wp2_with fail
      go_ret
      exact ⟨_, rfl, by rw [size_mk]; exact HL.out, Bk⟩
end Go.Proofs.YtiknfifiglooeaaDoor
