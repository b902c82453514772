/- Hurt: the chunks that are damaged. No conditions beyond those in each statement. -/
import Derived.Test.YtiknfifiglooeaaDoorChunkCk
namespace Go.Proofs.YtiknfifiglooeaaDoor
open Go.RowKit
set_option linter.unusedVariables false
set_option maxRecDepth 100000

open Classical in
/-- The first k chunks' damaged ones. -/
noncomputable def hurtK (D : Dv) (base area : Int) (l : Ls) (k : Nat) : List Int := ((List.range k).filter fun j => decide ((chunkF D base area l j).2 = 6)).map fun (j : Nat) => (j : Int)
theorem hurtK_hit {D : Dv} {base area : Int} {l : Ls} {k : Nat} (h : (chunkF D base area l k).2 = 6) : hurtK D base area l (k + 1) = hurtK D base area l k ++ [(k : Int)] := by
  unfold hurtK
  rw [List.range_succ, List.filter_append, List.map_append]
  simp [h]
theorem hurtK_miss {D : Dv} {base area : Int} {l : Ls} {k : Nat} (h : (chunkF D base area l k).2 ≠ 6) : hurtK D base area l (k + 1) = hurtK D base area l k := by
  unfold hurtK
  rw [List.range_succ, List.filter_append, List.map_append]
  simp [h]
theorem hurtK_len (D : Dv) (base area : Int) (l : Ls) (k : Nat) : (hurtK D base area l k).length ≤ k := by
  unfold hurtK
  rw [List.length_map]
  exact Nat.le_trans (List.length_filter_le _ _) (by simp)
set_option maxHeartbeats 4000000 in
theorem churt_any {m : Nat} {E : Nat → Prop} {w : World} {b B : Nat} {base : Int} {l : Ls} {sv : Value} {area : Int} {D : Dv} (h : StoW m E w b B base l sv area D) (h0 : l.index ≠ 0) (ht : Tabs w) (hw : D.writes ≤ 1073741824) :
    Calls Tryd.prog 42 #[.pointer (some ⟨b, 0, none⟩)] w fun e w' => ∃ v, e = .returned v ∧ w'.ownsRow w.heap.size 3 1 v (hurtK D base area l l.sums.length).length (ntCells (hurtK D base area l l.sums.length)) ∧ Below w.heap.size w w' := by
  obtain ⟨a, cap, rfl, hl, hjunk⟩ := id h.sums
  clear hjunk
  have HE := Lib.hid (cempty_any h.st)
  rw [show decide (l.index = 0) = false by simpa using h0] at HE
  have HC := Lib.hid (fun (k : Nat) (hk : k < l.sums.length) (W : World) (hb : Below w.heap.size w W) => cchunk_any k (h.below hb) h0 hk (ht.below hb) hw)
  obtain ⟨⟨c0, c1, c2, c3, c4, c5, c6⟩, _⟩ := h.st.cells
  obtain ⟨n, hn⟩ : ∃ n, n = l.sums.length := ⟨_, rfl⟩
  rw [← hn] at hl HC c5 ⊢
  have hn2 : n ≤ 9223372036854775807 := by omega
  have RN := World.ownsRow_nil w w.heap.size 3 1
  obtain ⟨i0, hi, hz0, hz1, hz2⟩ := info_parts info_intL
  clear h ht hn
  go_enter Tryd.func42, Tryd.ntmps42
  go_wp2_with fail
  refine HE.out.mono ?_
  rintro e w1 ⟨rfl, rfl⟩
  go_wp2_with fail
  go_loopw [3, 15] (fun v z wr => ∃ k : Nat, k ≤ n ∧ z = .int .i64 (k : Int) ∧ wr.ownsRow w.heap.size 3 1 v (hurtK D base area l k).length (ntCells (hurtK D base area l k)) ∧ Below w.heap.size w wr) (fun _ z _ => n - (intOf z).toNat)
  case atStart => exact ⟨0, Nat.zero_le _, rfl, RN, Below.refl _ _⟩
  case round =>
    obtain ⟨k, hk, rfl, Rk, Bk⟩ := hrel
    by_cases hlt : k < n
    · have hlt' : (k : Int) < (n : Int) := by omega
      have hk0 : (0 : Int) ≤ (k : Int) := by omega
      have HCk := Lib.hid (HC.out k hlt wr Bk)
      obtain ⟨x, hx⟩ : ∃ x, x = chunkF D base area l k := ⟨_, rfl⟩
      rw [← hx] at HCk
      have HX := Lib.hid hx
      have hlen := hurtK_len D base area l k
      clear hx
      go_wp2_with fail
      refine HCk.out.mono ?_
      rintro e w2 ⟨rfl, hb2⟩
      have R2 := World.ownsRow_below Rk hb2
      have B2 := Bk.trans (hb2.mono Bk.size)
      by_cases h6 : x.2 = 6
      · have d6 : (x.2 == 6) = true := by simp [h6]
        have HK : Hid (hurtK D base area l (k + 1) = hurtK D base area l k ++ [(k : Int)]) := hurtK_hit (by rw [← HX.out]; exact h6)
        go_wp2_with (at_builtin; refine wpList_append_own _ rfl _ _ 90 rfl w.heap.size 3 i0 (.int .i64 0) 1 8 und_ints hi hz0 hz1 hz2 rfl (by decide) _ _ _ rfl (R2.alloc _) ⟨w2.heap.size, 0, none⟩ 1 1 [.int .i64 (k : Int)] rfl rfl (cell_one_new _ _ _) (by simp [Value.oneCell']) (by unfold maxLen; omega) (by omega) (by have := B2.size; simp; omega) ?_; intro v' w3 hown' hgrow _; go_frame)
        go_roundw
        case rel =>
          have hbA := (Below.refl w2.heap.size w2).alloc (Nat.le_refl _) (.cells #[.int .i64 (k : Int)] 3)
          refine ⟨k + 1, by omega, by go_num, ?_, ?_⟩
          · rw [HK.out, List.length_append]
            simpa [ntCells] using hown'
          · exact (B2.trans (hbA.mono B2.size)).grown hgrow (Nat.le_trans B2.size hbA.size) (fun j hj => (World.ownsRow.lt R2 j hj).1)
        case measure => simp [intOf]; omega
      · have d6 : (x.2 == 6) = false := by simp [h6]
        have HK : Hid (hurtK D base area l (k + 1) = hurtK D base area l k) := hurtK_miss (by rw [← HX.out]; exact h6)
        go_wp2_with fail
        go_roundw
        case rel => exact ⟨k + 1, by omega, by go_num, by rw [HK.out]; exact R2, B2⟩
        case measure => simp [intOf]; omega
    · obtain rfl : k = n := by omega
      clear hlt
      go_wp2_with fail
      go_ret
      exact ⟨_, rfl, Rk, Bk⟩
end Go.Proofs.YtiknfifiglooeaaDoor
