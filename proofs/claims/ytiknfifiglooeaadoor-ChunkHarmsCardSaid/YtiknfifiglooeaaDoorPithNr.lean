/- The reader's methods that read: number, Num, Text, Flag. -/
import Derived.Test.YtiknfifiglooeaaDoorPithRd
import Derived.Test.YtiknfifiglooeaaDoorPithVal
namespace Go.Proofs.YtiknfifiglooeaaDoor
open Go.RowKit
set_option linter.unusedVariables false
set_option maxRecDepth 100000

theorem i64_or8 (x y : Int) (h0 : 0 ≤ x) (h : x % 256 = 0) (h1 : x < 2 ^ 62) (h2 : 0 ≤ y) (h3 : y < 256) : bits .or .i64 x y = x + y :=
  bits_join .i64 62 (by decide) (fun n a b => IntWalk.i64_in n (by omega)) 8 x y h0 h h1 h2 h3 (by omega)
theorem val_round (s : ByteArray) (k : Nat) (h : k < s.size) (h6 : s.size ≤ 6) :
    bits BinOp.or IntKind.i64 ((val (s.data.toList.take k) : Int) * 256) (wrap64 (s[k].toNat : Int)) = (val (s.data.toList.take (k + 1)) : Int) := by
  have hb := val_take_lt s k 5 (by omega)
  have hc := s[k].toNat_lt
  rw [take_snoc s k h, val_snoc, IntWalk.wrap64_in _ (by omega), i64_or8 _ _ (by omega) (by omega) (by omega) (by omega) (by omega)]
  omega

set_option maxHeartbeats 400000 in
theorem number_ok (b : Nat) (rest : ByteArray) (n : Nat) (most : Int) (w : World) (h : RdB w b rest false) (hn : n ≤ rest.size) (h6 : n ≤ 6) (hm : rest.size ≤ maxLen)
    (hv : (val (rest.data.toList.take n) : Int) ≤ most) :
    Calls Tryd.prog 120 #[.pointer (some ⟨b, 0, none⟩), .int .i64 n, .int .i64 most] w fun e w' => e = .returned (.int .i64 (val (rest.data.toList.take n))) ∧ RdB w' b (rest.extract n rest.size) false ∧ w.grownBy w' (some b) := by
  obtain ⟨s, hs⟩ : ∃ s, s = rest.extract 0 n := ⟨_, rfl⟩
  have hxl : s.data.toList = rest.data.toList.take n := by rw [hs, Lib.extract_data]; simp
  have hs6 : s.size ≤ 6 := by rw [hs]; simp; omega
  rw [← hxl] at hv ⊢
  clear hxl
  obtain ⟨V, hV⟩ : ∃ V, V = val s.data.toList := ⟨_, rfl⟩
  rw [← hV] at hv ⊢
  have HS := Lib.hid hs
  have HV := Lib.hid hV
  clear hs hV
  go_enter Tryd.func120, Tryd.ntmps120
  go_wp2_with fail
  refine (take_ok b rest n _ h hn hm).mono ?_
  rintro e w' ⟨rfl, hr, hg⟩
  rw [← HS.out]
  go_wp2_with fail
  go_loop [8, 15] (fun v i => ∃ k : Nat, k ≤ s.size ∧ i = .int .i64 k ∧ v = .int .i64 (val (s.data.toList.take k))) (fun _ i => s.size - (intOf i).toNat)
  case atStart => exact ⟨0, Nat.zero_le _, rfl, rfl⟩
  case round =>
    obtain ⟨k, hk, rfl, rfl⟩ := hrel
    by_cases hlt : k < s.size
    · have hb := val_take_lt s k 5 (by omega)
      have HR := Lib.hid (val_round s k hlt hs6)
      go_wp2_with fail
      go_round
      case rel => exact ⟨k + 1, by omega, by go_num, by rw [HR.out]⟩
      case measure => simp [intOf]; omega
    · have e : val (s.data.toList.take k) = V := by rw [HV.out, show k = s.size by omega, take_all]
      rw [e]
      have hd : decide (most < (V : Int)) = false := by simp; omega
      go_wp2_with fail
      go_ret
      exact ⟨rfl, hr, hg⟩

set_option maxHeartbeats 400000 in
/-- Above 'most': an error. -/
theorem number_above (b : Nat) (rest : ByteArray) (n : Nat) (most : Int) (w : World) (h : RdB w b rest false) (hn : n ≤ rest.size) (h6 : n ≤ 6) (hm : rest.size ≤ maxLen)
    (hv : most < (val (rest.data.toList.take n) : Int)) :
    Calls Tryd.prog 120 #[.pointer (some ⟨b, 0, none⟩), .int .i64 n, .int .i64 most] w fun e w' => e = .returned (.int .i64 0) ∧ RdB w' b ⟨#[]⟩ true ∧ w.grownBy w' (some b) := by
  obtain ⟨s, hs⟩ : ∃ s, s = rest.extract 0 n := ⟨_, rfl⟩
  have hxl : s.data.toList = rest.data.toList.take n := by rw [hs, Lib.extract_data]; simp
  have hs6 : s.size ≤ 6 := by rw [hs]; simp; omega
  rw [← hxl] at hv
  clear hxl
  obtain ⟨V, hV⟩ : ∃ V, V = val s.data.toList := ⟨_, rfl⟩
  rw [← hV] at hv
  have HS := Lib.hid hs
  have HV := Lib.hid hV
  clear hs hV
  go_enter Tryd.func120, Tryd.ntmps120
  go_wp2_with fail
  refine (take_ok b rest n _ h hn hm).mono ?_
  rintro e w' ⟨rfl, hr, hg⟩
  rw [← HS.out]
  go_wp2_with fail
  go_loop [8, 15] (fun v i => ∃ k : Nat, k ≤ s.size ∧ i = .int .i64 k ∧ v = .int .i64 (val (s.data.toList.take k))) (fun _ i => s.size - (intOf i).toNat)
  case atStart => exact ⟨0, Nat.zero_le _, rfl, rfl⟩
  case round =>
    obtain ⟨k, hk, rfl, rfl⟩ := hrel
    by_cases hlt : k < s.size
    · have hb := val_take_lt s k 5 (by omega)
      have HR := Lib.hid (val_round s k hlt hs6)
      go_wp2_with fail
      go_round
      case rel => exact ⟨k + 1, by omega, by go_num, by rw [HR.out]⟩
      case measure => simp [intOf]; omega
    · have e : val (s.data.toList.take k) = V := by rw [HV.out, show k = s.size by omega, take_all]
      rw [e]
      have hd : decide (most < (V : Int)) = true := by simp; omega
      go_wp2_with (go_at_call 127; refine (fail_any b _ false _ hr).mono ?_; rintro e w'' ⟨rfl, hr2, hg2⟩)
      go_ret
      exact ⟨rfl, hr2, only_trans hg hg2⟩

set_option maxHeartbeats 400000 in
/-- A reader with an error, or with too few bytes. -/
theorem number_bad (b : Nat) (rest : ByteArray) (f : Bool) (n most : Int) (w : World) (h : RdB w b rest f) (hn : f = true ∨ (rest.size : Int) < n) (hm : rest.size ≤ maxLen) :
    Calls Tryd.prog 120 #[.pointer (some ⟨b, 0, none⟩), .int .i64 n, .int .i64 most] w fun e w' => e = .returned (.int .i64 0) ∧ RdB w' b ⟨#[]⟩ true ∧ w.grownBy w' (some b) := by
  have HT := Lib.hid (take_bad b rest f n w h hn hm)
  clear hn
  by_cases hd : most < 0
  · have hdd : decide (most < 0) = true := by simp; omega
    go_enter Tryd.func120, Tryd.ntmps120
    go_wp2_with fail
    refine HT.out.mono ?_
    rintro e w' ⟨rfl, hr, hg⟩
    go_wp2_with fail
    refine wp_loop_rounds 1 ?_
    rw [rounds_succ]
    go_wp2_with (go_at_call 127; refine (fail_any b _ true _ hr).mono ?_; rintro e w'' ⟨rfl, hr2, hg2⟩)
    go_ret
    exact ⟨rfl, hr2, only_trans hg hg2⟩
  · have hdd : decide (most < 0) = false := by simp; omega
    go_enter Tryd.func120, Tryd.ntmps120
    go_wp2_with fail
    refine HT.out.mono ?_
    rintro e w' ⟨rfl, hr, hg⟩
    go_wp2_with fail
    refine wp_loop_rounds 1 ?_
    rw [rounds_succ]
    go_wp2_with fail
    go_ret
    exact ⟨rfl, hr, hg⟩

set_option maxHeartbeats 400000 in
theorem number_nil (n most : Int) (w : World) :
    Calls Tryd.prog 120 #[.pointer none, .int .i64 n, .int .i64 most] w fun e w' => e = .returned (.int .i64 0) ∧ w = w' := by
  by_cases hd : most < 0
  · have hdd : decide (most < 0) = true := by simp; omega
    go_enter Tryd.func120, Tryd.ntmps120
    go_wp2_with fail
    refine (take_nil n _).mono ?_
    rintro e w' ⟨rfl, rfl⟩
    go_wp2_with fail
    refine wp_loop_rounds 1 ?_
    rw [rounds_succ]
    go_wp2_with (go_at_call 127; refine (fail_nil _).mono ?_; rintro e w' ⟨rfl, rfl⟩)
    go_ret
    exact ⟨rfl, rfl⟩
  · have hdd : decide (most < 0) = false := by simp; omega
    go_enter Tryd.func120, Tryd.ntmps120
    go_wp2_with fail
    refine (take_nil n _).mono ?_
    rintro e w' ⟨rfl, rfl⟩
    go_wp2_with fail
    refine wp_loop_rounds 1 ?_
    rw [rounds_succ]
    go_wp2_with fail
    go_ret
    exact ⟨rfl, rfl⟩
end Go.Proofs.YtiknfifiglooeaaDoor
