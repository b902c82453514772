/- slot.Put: what it answers; no conditions beyond those in each statement. -/
import Derived.Test.YtpjbkeheemhlnaaDoorSlotMath
namespace Go.Proofs.YtpjbkeheemhlnaaDoor
open Go.RowKit
set_option linter.unusedVariables false
set_option maxRecDepth 100000

/-- Three numbers in an array. -/
theorem num_three (a b c : Int) (g : Nat) (w : World) (hb : g < w.heap.size)
    (ha : -9223372036854775808 ≤ a ∧ a ≤ 9223372036854775807) (hbb : -9223372036854775808 ≤ b ∧ b ≤ 9223372036854775807) (hcc : -9223372036854775808 ≤ c ∧ c ≤ 9223372036854775807)
    (c0 : w.cell? ⟨g, 0, none⟩ = some (.int .i64 a)) (c1 : w.cell? ⟨g, 1, none⟩ = some (.int .i64 b)) (c2 : w.cell? ⟨g, 2, none⟩ = some (.int .i64 c)) :
    Calls Tryd.prog 24 #[.slice none 0 0, .slice (some ⟨g, 0, none⟩) 3 3] w fun e w' => ∃ v', e = .returned v' ∧ Bs w' w.heap.size v' (numsE [a, b, c]) ∧ Below w.heap.size w w' := by
  refine (num_list (.slice none 0 0) [] g 0 3 [a, b, c] w (Src.nil w) hb (by simp) ?_ ?_).mono ?_
  · intro j hj
    match j, hj with
    | 0, _ => exact ha
    | 1, _ => exact hbb
    | 2, _ => exact hcc
  · intro j hj
    match j, hj with
    | 0, _ => exact c0
    | 1, _ => exact c1
    | 2, _ => exact c2
  · rintro e w' ⟨v', he, ho, hb⟩
    exact ⟨v', he, by simpa using ho, hb⟩

theorem und_int3 : Tryd.prog.underlying 162 = some (.array 3 3) := by kernel_rfl
theorem info_int : (Tryd.prog.info? 3).map (fun i => (i.zero, i.size, i.bytes)) = some (some (.int .i64 0), 1, 8) := by kernel_rfl
theorem idx3 (a b c : Value) (j : Nat) (hj : j < 3) (W : World) : (Instr.index 162 (.agg #[a, b, c]) (.int .i64 (j : Int))).run Tryd.prog W = .ok (#[a, b, c][j]'hj) W := by
  match j, hj with
  | 0, _ => simp [Instr.index, run_underlying und_int3, asIntOf, sizeOf, go_sem]
  | 1, _ => simp [Instr.index, run_underlying und_int3, asIntOf, sizeOf, go_sem]; rfl
  | 2, _ => simp [Instr.index, run_underlying und_int3, asIntOf, sizeOf, go_sem]; rfl
set_option maxHeartbeats 4000000 in
theorem put_good (r : Rc) (w : World) (ht : Tabs w) (hn : r.Num) (hd : r.data.size ≤ 488) :
    Calls Tryd.prog 90 #[recV r] w fun e w' => e = .returned (.tuple #[.string r.bytes, .int .i64 0]) ∧ Below w.heap.size w w' := by
  have HN3 := Lib.hid (fun (g : Nat) (W : World) => num_three r.kind r.index r.term g W)
  have HT1 := Lib.hid (fun (v : Value) (l : List UInt8) (W : World) => text_one v l r.data W)
  have HSL := Lib.hid (fun (s : ByteArray) (W : World) => seal_any s W)
  have HB := Lib.hid (show ByteArray.mk (sealN (numsE [r.kind, r.index, r.term] ++ textE r.data.data.toList)).toArray = r.bytes from rfl)
  have HL : (numsE [r.kind, r.index, r.term] ++ textE r.data.data.toList).length ≤ 70000 := by
    rw [List.length_append, numsE_length]
    have := textE_length r.data.data.toList
    simp
    omega
  have HL1 : (numsE [r.kind, r.index, r.term]).length ≤ 18 := by rw [numsE_length]; simp
  generalize r.bytes = y at *
  obtain ⟨⟨k0, k1⟩, ⟨i0, i1⟩, ⟨t0, t1⟩⟩ := hn
  obtain ⟨k, i, t, d⟩ := r
  simp only at *
  generalize numsE [k, i, t] = p at *
  have HLL := Lib.hid HL
  have HLL1 := Lib.hid HL1
  clear HL HL1
  have ek0 : decide (k < 0) = false := by simp; omega
  have ek1 : decide (281474976710655 < k) = false := by simp; omega
  have ei0 : decide (i < 0) = false := by simp; omega
  have ei1 : decide (281474976710655 < i) = false := by simp; omega
  have et0 : decide (t < 0) = false := by simp; omega
  have et1 : decide (281474976710655 < t) = false := by simp; omega
  have ed : decide ((488 : Int) < (d.size : Int)) = false := by simp; omega
  have HT := Lib.hid ht
  clear ht
  have x0 : ∀ W, (Instr.index 162 (.agg #[.int .i64 k, .int .i64 i, .int .i64 t]) (.int .i64 0)).run Tryd.prog W = .ok (.int .i64 k) W := idx3 (.int .i64 k) (.int .i64 i) (.int .i64 t) 0 (by omega)
  have x1 : ∀ W, (Instr.index 162 (.agg #[.int .i64 k, .int .i64 i, .int .i64 t]) (.int .i64 1)).run Tryd.prog W = .ok (.int .i64 i) W := idx3 (.int .i64 k) (.int .i64 i) (.int .i64 t) 1 (by omega)
  have x2 : ∀ W, (Instr.index 162 (.agg #[.int .i64 k, .int .i64 i, .int .i64 t]) (.int .i64 2)).run Tryd.prog W = .ok (.int .i64 t) W := idx3 (.int .i64 k) (.int .i64 i) (.int .i64 t) 2 (by omega)
  unfold recV
  go_enter Tryd.func90, Tryd.ntmps90
  go_wp2_with fail
  refine wp_loop_rounds 4 ?_
  rw [rounds_succ]
  go_wp2_with fail
  rw [rounds_succ]
  go_wp2_with fail
  rw [rounds_succ]
  go_wp2_with fail
  rw [rounds_succ]
  go_wp2_with fail
  have q1 := heap_alloc_new (w.alloc (.cells #[.int .i64 k, .int .i64 i, .int .i64 t, .string d] 38)) (.cells #[.int .i64 k, .int .i64 i, .int .i64 t] 162)
  rw [World.size_alloc] at q1
  have q0 : ((w.alloc (.cells #[.int .i64 k, .int .i64 i, .int .i64 t, .string d] 38)).alloc (.cells #[.int .i64 k, .int .i64 i, .int .i64 t] 162)).heap[w.heap.size]? = some (.cells #[.int .i64 k, .int .i64 i, .int .i64 t, .string d] 38 (0, 0)) :=
    (heap_alloc_old _ _ (by simp)).trans (heap_alloc_new w _)
  have b0 : Below w.heap.size w ((w.alloc (.cells #[.int .i64 k, .int .i64 i, .int .i64 t, .string d] 38)).alloc (.cells #[.int .i64 k, .int .i64 i, .int .i64 t] 162)) := ((Below.refl _ w).alloc (Nat.le_refl _) _).alloc (by simp) _
  have hlt0 : w.heap.size < ((w.alloc (.cells #[.int .i64 k, .int .i64 i, .int .i64 t, .string d] 38)).alloc (.cells #[.int .i64 k, .int .i64 i, .int .i64 t] 162)).heap.size := by simp; omega
  refine (HN3.out (w.heap.size + 1) _ (by simp) (by omega) (by omega) (by omega) (cell_of q1 rfl) (cell_of q1 rfl) (cell_of q1 rfl)).mono ?_
  rintro e w1 ⟨v1, rfl, ho1, hb1⟩
  have d3 : w1.cell? ⟨w.heap.size, 3, none⟩ = some (.string d) := cell_of ((hb1.block _ hlt0).trans q0) rfl
  have B1 := b0.trans (hb1.mono b0.size)
  clear q1 q0 b0 hb1 hlt0
  go_wp2_with fail
  refine (HT1.out v1 p w1 ho1.src (by have := HLL1.out; omega) (by unfold maxLen; omega)).mono ?_
  rintro e w2 ⟨v2, rfl, ho2, hb2⟩
  have B2 := B1.trans (hb2.mono B1.size)
  have hcv := run_str ho2.src
  clear ho1 ho2 hb2 d3
  obtain ⟨x, hx⟩ : ∃ x, x = ByteArray.mk (p ++ textE d.data.toList).toArray := ⟨_, rfl⟩
  rw [← hx] at hcv
  have hxs : x.size ≤ 281474976710656 := by rw [hx, size_mk]; have := HLL.out; omega
  have hxd : x.data.toList = p ++ textE d.data.toList := by rw [hx, data_mk]
  have HXD := Lib.hid hxd
  clear hx hxd
  go_wp2_with fail
  refine (HSL.out x w2 (HT.out.below B2) hxs).mono ?_
  rintro e w3 ⟨rfl, hb3⟩
  go_wp2_with fail
  go_ret2
  exact ⟨by rw [HXD.out, HB.out]; rfl, B2.trans (hb3.mono B2.size)⟩
set_option maxHeartbeats 4000000 in
theorem put_bad (r : Rc) (w : World) (hn : ¬ r.Num) :
    Calls Tryd.prog 90 #[recV r] w fun e w' => e = .returned (.tuple #[.string ⟨#[]⟩, .int .i64 1]) ∧ Below w.heap.size w w' := by
  obtain ⟨k, i, t, d⟩ := r
  have hn : ¬ ((0 ≤ k ∧ k ≤ 281474976710655) ∧ (0 ≤ i ∧ i ≤ 281474976710655) ∧ (0 ≤ t ∧ t ≤ 281474976710655)) := fun h => hn ⟨h.1, h.2.1, h.2.2⟩
  have x0 : ∀ W, (Instr.index 162 (.agg #[.int .i64 k, .int .i64 i, .int .i64 t]) (.int .i64 0)).run Tryd.prog W = .ok (.int .i64 k) W := idx3 (.int .i64 k) (.int .i64 i) (.int .i64 t) 0 (by omega)
  have x1 : ∀ W, (Instr.index 162 (.agg #[.int .i64 k, .int .i64 i, .int .i64 t]) (.int .i64 1)).run Tryd.prog W = .ok (.int .i64 i) W := idx3 (.int .i64 k) (.int .i64 i) (.int .i64 t) 1 (by omega)
  have x2 : ∀ W, (Instr.index 162 (.agg #[.int .i64 k, .int .i64 i, .int .i64 t]) (.int .i64 2)).run Tryd.prog W = .ok (.int .i64 t) W := idx3 (.int .i64 k) (.int .i64 i) (.int .i64 t) 2 (by omega)
  unfold recV
  by_cases hk : 0 ≤ k ∧ k ≤ 281474976710655
  · by_cases hi : 0 ≤ i ∧ i ≤ 281474976710655
    · have ht : ¬ (0 ≤ t ∧ t ≤ 281474976710655) := fun h => hn ⟨hk, hi, h⟩
      have ek0 : decide (k < 0) = false := by simp; omega
      have ek1 : decide (281474976710655 < k) = false := by simp; omega
      have ei0 : decide (i < 0) = false := by simp; omega
      have ei1 : decide (281474976710655 < i) = false := by simp; omega
      clear hn
      by_cases h : t < 0
      · have et0 : decide (t < 0) = true := by simp; omega
        go_enter Tryd.func90, Tryd.ntmps90
        go_wp2_with fail
        refine wp_loop_rounds 4 ?_
        rw [rounds_succ]
        go_wp2_with fail
        rw [rounds_succ]
        go_wp2_with fail
        rw [rounds_succ]
        go_wp2_with fail
        go_ret2
        exact ⟨rfl, ((Below.refl _ w).alloc (Nat.le_refl _) _).alloc (by simp) _⟩
      · have et0 : decide (t < 0) = false := by simp; omega
        have et1 : decide (281474976710655 < t) = true := by simp; omega
        go_enter Tryd.func90, Tryd.ntmps90
        go_wp2_with fail
        refine wp_loop_rounds 4 ?_
        rw [rounds_succ]
        go_wp2_with fail
        rw [rounds_succ]
        go_wp2_with fail
        rw [rounds_succ]
        go_wp2_with fail
        go_ret2
        exact ⟨rfl, ((Below.refl _ w).alloc (Nat.le_refl _) _).alloc (by simp) _⟩
    · have ek0 : decide (k < 0) = false := by simp; omega
      have ek1 : decide (281474976710655 < k) = false := by simp; omega
      clear hn
      by_cases h : i < 0
      · have ei0 : decide (i < 0) = true := by simp; omega
        go_enter Tryd.func90, Tryd.ntmps90
        go_wp2_with fail
        refine wp_loop_rounds 4 ?_
        rw [rounds_succ]
        go_wp2_with fail
        rw [rounds_succ]
        go_wp2_with fail
        go_ret2
        exact ⟨rfl, ((Below.refl _ w).alloc (Nat.le_refl _) _).alloc (by simp) _⟩
      · have ei0 : decide (i < 0) = false := by simp; omega
        have ei1 : decide (281474976710655 < i) = true := by simp; omega
        go_enter Tryd.func90, Tryd.ntmps90
        go_wp2_with fail
        refine wp_loop_rounds 4 ?_
        rw [rounds_succ]
        go_wp2_with fail
        rw [rounds_succ]
        go_wp2_with fail
        go_ret2
        exact ⟨rfl, ((Below.refl _ w).alloc (Nat.le_refl _) _).alloc (by simp) _⟩
  · clear hn
    by_cases h : k < 0
    · have ek0 : decide (k < 0) = true := by simp; omega
      go_enter Tryd.func90, Tryd.ntmps90
      go_wp2_with fail
      refine wp_loop_rounds 4 ?_
      rw [rounds_succ]
      go_wp2_with fail
      go_ret2
      exact ⟨rfl, ((Below.refl _ w).alloc (Nat.le_refl _) _).alloc (by simp) _⟩
    · have ek0 : decide (k < 0) = false := by simp; omega
      have ek1 : decide (281474976710655 < k) = true := by simp; omega
      go_enter Tryd.func90, Tryd.ntmps90
      go_wp2_with fail
      refine wp_loop_rounds 4 ?_
      rw [rounds_succ]
      go_wp2_with fail
      go_ret2
      exact ⟨rfl, ((Below.refl _ w).alloc (Nat.le_refl _) _).alloc (by simp) _⟩

set_option maxHeartbeats 4000000 in
theorem put_much (r : Rc) (w : World) (hn : r.Num) (hd : 488 < r.data.size) :
    Calls Tryd.prog 90 #[recV r] w fun e w' => e = .returned (.tuple #[.string ⟨#[]⟩, .int .i64 3]) ∧ Below w.heap.size w w' := by
  obtain ⟨k, i, t, d⟩ := r
  obtain ⟨⟨k0, k1⟩, ⟨i0, i1⟩, ⟨t0, t1⟩⟩ := hn
  simp only at *
  have x0 : ∀ W, (Instr.index 162 (.agg #[.int .i64 k, .int .i64 i, .int .i64 t]) (.int .i64 0)).run Tryd.prog W = .ok (.int .i64 k) W := idx3 (.int .i64 k) (.int .i64 i) (.int .i64 t) 0 (by omega)
  have x1 : ∀ W, (Instr.index 162 (.agg #[.int .i64 k, .int .i64 i, .int .i64 t]) (.int .i64 1)).run Tryd.prog W = .ok (.int .i64 i) W := idx3 (.int .i64 k) (.int .i64 i) (.int .i64 t) 1 (by omega)
  have x2 : ∀ W, (Instr.index 162 (.agg #[.int .i64 k, .int .i64 i, .int .i64 t]) (.int .i64 2)).run Tryd.prog W = .ok (.int .i64 t) W := idx3 (.int .i64 k) (.int .i64 i) (.int .i64 t) 2 (by omega)
  have ek0 : decide (k < 0) = false := by simp; omega
  have ek1 : decide (281474976710655 < k) = false := by simp; omega
  have ei0 : decide (i < 0) = false := by simp; omega
  have ei1 : decide (281474976710655 < i) = false := by simp; omega
  have et0 : decide (t < 0) = false := by simp; omega
  have et1 : decide (281474976710655 < t) = false := by simp; omega
  have ed : decide ((488 : Int) < (d.size : Int)) = true := by simp; omega
  unfold recV
  go_enter Tryd.func90, Tryd.ntmps90
  go_wp2_with fail
  refine wp_loop_rounds 4 ?_
  rw [rounds_succ]
  go_wp2_with fail
  rw [rounds_succ]
  go_wp2_with fail
  rw [rounds_succ]
  go_wp2_with fail
  rw [rounds_succ]
  go_wp2_with fail
  go_ret2
  exact ⟨rfl, ((Below.refl _ w).alloc (Nat.le_refl _) _).alloc (by simp) _⟩

/-- Put, whatever the record. -/
theorem put_any (r : Rc) (w : World) (ht : Tabs w) : Calls Tryd.prog 90 #[recV r] w fun e w' => e = .returned (.tuple #[.string r.put.1, .int .i64 r.put.2]) ∧ Below w.heap.size w w' := by
  by_cases hn : r.Num
  · by_cases hd : r.data.size ≤ 488
    · rw [put_ok ⟨hn, hd⟩]; exact put_good r w ht hn hd
    · rw [put_long hn (by omega)]; exact put_much r w hn (by omega)
  · rw [put_arg hn]; exact put_bad r w hn
end Go.Proofs.YtpjbkeheemhlnaaDoor
