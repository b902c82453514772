/- Play: an act of a device. No conditions beyond those in each statement. -/
import Derived.Test.YtmfkbddfjfjfkaaSame
import Derived.Test.YtmfkbddfjfjfkaaDevFlip
namespace Go.Proofs.Ytmfkbddfjfjfkaa
open Go.RowKit
set_option linter.unusedVariables false

/-- The kind of an act. -/
def kindA (k : Int) : Nat := (k % 18446744073709551616).toNat % 6
theorem kindA_lt (k : Int) : kindA k < 6 := Nat.mod_lt _ (by decide)
def Dv.play (D : Dv) (a : Ac) : Int × Dv := match kindA a.k with
  | 0 => D.write a.block a.data
  | 1 => D.write a.block a.data
  | 2 => D.flush
  | 3 => (0, D.onB a.block fun b => b.flip a.n a.bits)
  | 4 => (0, D.onB a.block Blk.lose)
  | _ => (0, D.fall a.n)
section
variable {S : Nat → Prop} {w : World} {B : Nat} {D : Dv}
theorem kind_eq (k : Int) : wrap64 ((IntKind.u64.wrap k).tmod 6) = (kindA k : Int) := by
  rw [show IntKind.u64.wrap k = k % 18446744073709551616 from rfl, Int.tmod_eq_emod_of_nonneg (by omega)]
  unfold wrap64 kindA
  rw [Int.natCast_emod, Int.toNat_of_nonneg (by omega)]
  simp only [Int.cast_ofNat_Int]
  omega
theorem DevAt.from {x : World} {D' : Dv} (hb : Below w.heap.size w x) {y : World} (h : DevTo S x B D' y) : DevTo S w B D' y := by
  obtain ⟨S', h1, h2, h3⟩ := h
  exact ⟨S', h1, fun k hk => (h2 k hk).imp id (fun e => Nat.le_trans hb.size e), (Mod.of_below hb S).trans h3 (fun k hk => .inl hk)⟩
set_option maxHeartbeats 4000000 in
theorem play_any (a : Ac) (ha : a.Ok) (hw : D.writes ≤ 1073741824) (h : DevAt S w B D) :
    Calls Try.prog 12 #[.pointer (some ⟨B, 0, none⟩), acV a] w fun e w' => e = .returned (.int .i64 (D.play a).1) ∧ DevTo S w B (D.play a).2 w' := by
  have hk := kindA_lt a.k
  have hke := kind_eq a.k
  have hB0 : Below w.heap.size w (w.alloc (.cells #[.int .i64 a.k, .int .i64 a.block, .int .i64 a.n, .string a.data, .int .u8 a.bits] 30)) := (Below.refl _ w).alloc (Nat.le_refl _) _
  have h' := h.below hB0
  have HB0 := Lib.hid hB0
  have hn := ha.n
  unfold i64in at hn
  clear hB0
  by_cases h0 : kindA a.k = 0
  · have e0 : D.play a = D.write a.block a.data := by simp [Dv.play, h0]
    rw [e0]
    rw [h0] at hke
    have hke' : wrap64 ((IntKind.u64.wrap a.k).tmod 6) = 0 := hke
    have hc := write_any a.block a.data hw h'
    clear hke e0 h0 hk hn
    go_enter Try.func12, Try.ntmps12
    go_wp2_with (go_at_call 18; refine hc.mono ?_; rintro e w1 ⟨rfl, hd1⟩)
    go_ret
    exact ⟨rfl, DevAt.from HB0.out hd1⟩
  · by_cases h1 : kindA a.k = 1
    · have e0 : D.play a = D.write a.block a.data := by simp [Dv.play, h1]
      rw [e0]
      rw [h1] at hke
      have hke' : wrap64 ((IntKind.u64.wrap a.k).tmod 6) = 1 := hke
      have hc := write_any a.block a.data hw h'
      clear hke e0 h0 h1 hk hn
      go_enter Try.func12, Try.ntmps12
      go_wp2_with (go_at_call 18; refine hc.mono ?_; rintro e w1 ⟨rfl, hd1⟩)
      go_ret
      exact ⟨rfl, DevAt.from HB0.out hd1⟩
    · by_cases h2 : kindA a.k = 2
      · have e0 : D.play a = D.flush := by simp [Dv.play, h2]
        rw [e0]
        rw [h2] at hke
        have hke' : wrap64 ((IntKind.u64.wrap a.k).tmod 6) = 2 := hke
        have hc := flush_any h' (by omega)
        clear hke e0 h0 h1 h2 hk hn
        go_enter Try.func12, Try.ntmps12
        go_wp2_with (go_at_call 20; refine hc.mono ?_; rintro e w1 ⟨rfl, hd1, hm1⟩)
        go_ret
        exact ⟨rfl, DevAt.from HB0.out (hd1.to hm1)⟩
      · by_cases h3 : kindA a.k = 3
        · have e0 : D.play a = (0, D.onB a.block fun b => b.flip a.n a.bits) := by simp [Dv.play, h3]
          rw [e0]
          rw [h3] at hke
          have hke' : wrap64 ((IntKind.u64.wrap a.k).tmod 6) = 3 := hke
          have hc := flip_any a.block a.n a.bits hn ha.bits h'
          clear hke e0 h0 h1 h2 h3 hk hn
          go_enter Try.func12, Try.ntmps12
          go_wp2_with (go_at_call 23; refine hc.mono ?_; rintro e w1 ⟨rfl, hd1, hm1⟩)
          go_ret
          exact ⟨rfl, DevAt.from HB0.out (hd1.to hm1)⟩
        · by_cases h4 : kindA a.k = 4
          · have e0 : D.play a = (0, D.onB a.block Blk.lose) := by simp [Dv.play, h4]
            rw [e0]
            rw [h4] at hke
            have hke' : wrap64 ((IntKind.u64.wrap a.k).tmod 6) = 4 := hke
            have hc := lose_any a.block h'
            clear hke e0 h0 h1 h2 h3 h4 hk hn
            go_enter Try.func12, Try.ntmps12
            go_wp2_with (go_at_call 24; refine hc.mono ?_; rintro e w1 ⟨rfl, hd1, hm1⟩)
            go_ret
            exact ⟨rfl, DevAt.from HB0.out (hd1.to hm1)⟩
          · have h5 : kindA a.k = 5 := by omega
            have e0 : D.play a = (0, D.fall a.n) := by simp [Dv.play, h5]
            rw [e0]
            rw [h5] at hke
            have hke' : wrap64 ((IntKind.u64.wrap a.k).tmod 6) = 5 := hke
            have hc := fall_any a.n hn.2 h'
            clear hke e0 h0 h1 h2 h3 h4 h5 hk hn
            go_enter Try.func12, Try.ntmps12
            go_wp2_with (go_at_call 22; refine hc.mono ?_; rintro e w1 ⟨rfl, hd1, hm1⟩)
            go_ret
            exact ⟨rfl, DevAt.from HB0.out (hd1.to hm1)⟩
end
end Go.Proofs.Ytmfkbddfjfjfkaa
