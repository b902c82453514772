/- The program's test of a part. No conditions beyond those in each statement. -/
import Derived.Test.YtbbdokfankgllaaDoorPathMath
import Derived.Test.YtbbdokfankgllaaDoorChecked
import Derived.WalkKit
import Derived.LoopTactic
import Derived.Outline
import Derived.Lib.Hide
import Derived.Lib.Strings
namespace Go.Proofs.YtbbdokfankgllaaDoor
open Go.RowKit
set_option linter.unusedVariables false
set_option maxRecDepth 100000

theorem ret_b {a b : Bool} (h : a = b) : Ending.returned (.bool a) = .returned (.bool b) := by rw [h]
set_option maxHeartbeats 1000000 in
theorem partByte_any (n : Int) (w : World) : Calls Tryd.prog 60 #[.int .u8 n] w fun e w' => e = .returned (.bool (okI n)) ∧ w' = w := by
  go_enter Tryd.func60, Tryd.ntmps60
  go_wp2
  all_goals (go_ret; exact ⟨ret_b (by rw [Bool.eq_iff_iff]; unfold okI; simp; try omega), rfl⟩)
theorem take_snoc8 (s : ByteArray) (k : Nat) (h : k < s.size) : s.data.toList.take (k + 1) = s.data.toList.take k ++ [s[k]] := by
  rw [List.take_succ_eq_append_getElem (by simpa using h)]; rfl
theorem all_of_not {s : ByteArray} {k : Nat} (h : k < s.size) (hn : okI (s[k].toNat : Int) = false) : s.data.toList.all okU = false := by
  rw [List.all_eq_false]
  refine ⟨s[k], ?_, by unfold okU; simp [hn]⟩
  have : s[k] = s.data.toList[k]'(by simpa using h) := rfl
  rw [this]; exact List.getElem_mem _
theorem partL_short {s : ByteArray} (h : s.size < 1) : partL s.data.toList = false := by
  have := Lib.size_eq s
  unfold partL; simp; omega
theorem partL_long {s : ByteArray} (h : 20 < s.size) : partL s.data.toList = false := by
  have := Lib.size_eq s
  unfold partL; simp; omega
theorem partL_mid {s : ByteArray} (h1 : 1 ≤ s.size) (h2 : s.size ≤ 20) : partL s.data.toList = s.data.toList.all okU := by
  have := Lib.size_eq s
  unfold partL; simp; omega
set_option maxHeartbeats 4000000 in
theorem part_any (s : ByteArray) (w : World) : Calls Tryd.prog 48 #[.string s] w fun e w' => e = .returned (.bool (partL s.data.toList)) ∧ w' = w := by
  by_cases h1 : (s.size : Int) < 1
  · have e1 : decide ((s.size : Int) < 1) = true := by simpa using h1
    go_enter Tryd.func48, Tryd.ntmps48
    go_wp2
    go_ret
    exact ⟨ret_b (partL_short (by omega)).symm, rfl⟩
  · have e1 : decide ((s.size : Int) < 1) = false := by simpa using h1
    by_cases h2 : (20 : Int) < (s.size : Int)
    · have e2 : decide ((20 : Int) < (s.size : Int)) = true := by simpa using h2
      go_enter Tryd.func48, Tryd.ntmps48
      go_wp2
      go_ret
      exact ⟨ret_b (partL_long (by omega)).symm, rfl⟩
    · have e2 : decide ((20 : Int) < (s.size : Int)) = false := by simpa using h2
      have HM := Lib.hid (partL_mid (s := s) (by omega) (by omega))
      go_enter Tryd.func48, Tryd.ntmps48
      go_wp2
      go_loop [14] (fun i => ∃ k : Nat, k ≤ s.size ∧ i = .int .i64 k ∧ Hid ((s.data.toList.take k).all okU = true)) (fun i => s.size - (intOf i).toNat)
      case atStart => exact ⟨0, Nat.zero_le _, rfl, rfl⟩
      case round =>
        obtain ⟨k, hk, rfl, hall⟩ := hrel
        by_cases hlt : k < s.size
        · have HS := Lib.hid (take_snoc8 s k hlt)
          cases ho : okI (s[k].toNat : Int)
          · have hno := Lib.hid (all_of_not hlt ho)
            go_wp2_with (go_at_call 60; refine (partByte_any _ _).mono ?_; rintro e w' ⟨rfl, rfl⟩)
            go_ret
            exact ⟨ret_b (by rw [HM.out, hno.out]), rfl⟩
          · go_wp2_with (go_at_call 60; refine (partByte_any _ _).mono ?_; rintro e w' ⟨rfl, rfl⟩)
            go_round
            case rel => exact ⟨k + 1, by omega, by go_num, by show Hid _; exact Lib.hid (by rw [HS.out, List.all_append, hall.out]; simp [okU, ho])⟩
            case measure => simp [intOf]; omega
        · go_wp2
          go_ret
          exact ⟨ret_b (by have := hall.out; rw [List.take_of_length_le (by rw [← Lib.size_eq]; omega)] at this; rw [HM.out, this]), rfl⟩
end Go.Proofs.YtbbdokfankgllaaDoor
