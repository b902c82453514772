/- Package pith's Num, Text and Flag. -/
import Derived.Test.YtbdbmoinoehneaaDoorPithBe
namespace Go.Proofs.YtbdbmoinoehneaaDoor
open Go.RowKit
set_option linter.unusedVariables false
set_option maxRecDepth 100000

/-- A number's six bytes. -/
def numE (z : Int) : List UInt8 := be 6 (min (max z 0) 281474976710655).toNat
def numsE (zs : List Int) : List UInt8 := zs.flatMap numE
theorem numE_length (z : Int) : (numE z).length = 6 := be_length _ _
theorem numsE_length (zs : List Int) : (numsE zs).length = 6 * zs.length := by
  induction zs with
  | nil => rfl
  | cons z zs ih => rw [numsE, List.flatMap_cons, List.length_append, numE_length]; unfold numsE at ih; rw [ih, List.length_cons]; omega
theorem take_snoc_getD {α : Type} (zs : List α) (d : α) (k : Nat) (h : k < zs.length) : zs.take (k + 1) = zs.take k ++ [zs.getD k d] := by
  rw [List.take_succ_eq_append_getElem h, show zs.getD k d = zs[k] by simp [h]]
theorem numsE_snoc (zs : List Int) (k : Nat) (h : k < zs.length) : numsE (zs.take (k + 1)) = numsE (zs.take k) ++ numE (zs.getD k 0) := by
  rw [take_snoc_getD zs 0 k h, numsE, List.flatMap_append]; simp [numsE]

set_option maxHeartbeats 1000000 in
theorem num_list (v : Value) (l : List UInt8) (b off cap : Nat) (zs : List Int) (w : World) (h : Src w v l) (hb : b < w.heap.size)
    (hl : l.length + 6 * zs.length ≤ 140737488355328)
    (hz : ∀ j, j < zs.length → -9223372036854775808 ≤ zs.getD j 0 ∧ zs.getD j 0 ≤ 9223372036854775807)
    (hc : ∀ j, j < zs.length → w.cell? ⟨b, off + j, none⟩ = some (.int .i64 (zs.getD j 0))) :
    Calls Tryd.prog 52 #[v, .slice (some ⟨b, off, none⟩) zs.length cap] w fun e w' => ∃ v', e = .returned v' ∧ Bs w' w.heap.size v' (l ++ numsE zs) ∧ Below w.heap.size w w' := by
  have HE := Lib.hid (extend_any v l (6 * zs.length) w h (by omega))
  obtain ⟨a0, c0, rfl, _⟩ := h
  have HZ := Lib.hid hz
  have HC := Lib.hid hc
  clear hz hc
  go_enter Tryd.func52, Tryd.ntmps52
  go_wp2_with fail
  refine HE.out.mono ?_
  rintro e w1 ⟨v1, rfl, ho1, hb1⟩
  go_wp2_with fail
  go_loopw [5, 15] (fun x i wr => ∃ k : Nat, k ≤ zs.length ∧ i = .int .i64 k ∧ Bs wr w.heap.size x (l ++ numsE (zs.take k)) ∧ Below w.heap.size w wr) (fun _ i _ => zs.length - (intOf i).toNat)
  case atStart => exact ⟨0, Nat.zero_le _, rfl, by simpa [numsE] using ho1, hb1⟩
  case round =>
    obtain ⟨k, hk, rfl, hown, hb⟩ := hrel
    by_cases hlt : k < zs.length
    · have hcell : wr.cell? ⟨b, off + k, none⟩ = some (.int .i64 (zs.getD k 0)) := (hb.cell (p := ⟨b, off + k, none⟩) (by assumption)).trans (HC.out k hlt)
      have hzk := HZ.out k hlt
      have hes : l ++ numsE (zs.take (k + 1)) = (l ++ numsE (zs.take k)) ++ numE (zs.getD k 0) := by rw [numsE_snoc zs k hlt, List.append_assoc]
      have hln : (l ++ numsE (zs.take k)).length ≤ l.length + 6 * k := by
        rw [List.length_append, numsE_length, List.length_take]; omega
      have HES := Lib.hid hes
      clear hes
      generalize l ++ numsE (zs.take k) = m at *
      generalize zs.getD k 0 = z at *
      obtain ⟨n, hn⟩ := Int.eq_ofNat_of_zero_le (show 0 ≤ min (max z 0) 281474976710655 by omega)
      have hn2 : n < 2 ^ 62 := by omega
      have hnz : numE z = be 6 n := by unfold numE; rw [hn]; rfl
      have HN := Lib.hid hn
      have HNZ := Lib.hid hnz
      clear hn hnz
      have hsz := hb.size
      go_wp2_with fail
      rw [HN.out]
      refine (bigEndian_any w.heap.size _ m n 6 _ hown hsz (by omega) hn2 (by omega)).mono ?_
      rintro e w2 ⟨v2, rfl, ho2, hb2⟩
      rw [← HNZ.out, ← HES.out] at ho2
      go_wp2_with fail
      go_roundw
      case rel => exact ⟨k + 1, by omega, by go_num, ho2, hb.trans hb2⟩
      case measure => simp [intOf]; omega
    · have hkk : zs.take k = zs := List.take_of_length_le (by omega)
      rw [hkk] at hown
      have HO := Lib.hid hown
      clear hown hkk
      go_wp2_with fail
      go_ret
      exact ⟨_, rfl, HO.out, hb⟩

set_option maxHeartbeats 1000000 in
theorem num_none (v : Value) (l : List UInt8) (p : Option Addr) (cap : Nat) (w : World) (h : Src w v l)
    (hl : l.length ≤ 140737488355328) :
    Calls Tryd.prog 52 #[v, .slice p 0 cap] w fun e w' => ∃ v', e = .returned v' ∧ Bs w' w.heap.size v' l ∧ Below w.heap.size w w' := by
  have HE := Lib.hid (extend_any v l 0 w h (by omega))
  obtain ⟨a0, c0, rfl, _⟩ := h
  go_enter Tryd.func52, Tryd.ntmps52
  go_wp2_with fail
  refine HE.out.mono ?_
  rintro e w1 ⟨v1, rfl, ho1, hb1⟩
  go_wp2_with fail
  refine wp_loop_rounds 1 ?_
  rw [rounds_succ]
  go_wp2_with fail
  go_ret
  exact ⟨_, rfl, ho1, hb1⟩

/-- One number. -/
theorem num_one (v : Value) (l : List UInt8) (z : Int) (w : World) (h : Src w v l) (hl : l.length + 6 ≤ 140737488355328)
    (hz : -9223372036854775808 ≤ z ∧ z ≤ 9223372036854775807) :
    Calls Tryd.prog 52 #[v, .slice (some ⟨w.heap.size, 0, none⟩) 1 1] (w.alloc (.cells #[.int .i64 z] 3)) fun e w' => ∃ v', e = .returned v' ∧ Bs w' w.heap.size v' (l ++ numE z) ∧ Below w.heap.size w w' := by
  have h0 := (Below.refl w.heap.size w).alloc (Nat.le_refl _) (.cells #[.int .i64 z] 3)
  refine (num_list v l w.heap.size 0 1 [z] (w.alloc (.cells #[.int .i64 z] 3)) (h.below h0) (by simp) (by simpa using hl) ?_ ?_).mono ?_
  · intro j hj
    match j, hj with
    | 0, _ => exact hz
  · intro j hj
    match j, hj with
    | 0, _ => simp [World.cell?_alloc_at]
  · rintro e w' ⟨v', he, ho, hb⟩
    refine ⟨v', he, ?_, h0.trans (hb.mono (by simp))⟩
    have := ho.mono (C := w.heap.size) (by simp)
    simpa [numsE] using this
end Go.Proofs.YtbdbmoinoehneaaDoor
