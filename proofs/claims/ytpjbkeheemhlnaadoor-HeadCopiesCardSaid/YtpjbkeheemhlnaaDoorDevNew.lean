/- New: a device of so many empty blocks; no condition. -/
import Derived.Test.YtpjbkeheemhlnaaDoorDevRead
namespace Go.Proofs.YtpjbkeheemhlnaaDoor
open Go.RowKit
set_option linter.unusedVariables false
set_option maxRecDepth 100000

def blk0 : Blk := ⟨⟨#[]⟩, false, false, []⟩
def Dv.newN (m : Nat) : Dv := ⟨List.replicate m blk0, 0, false, 0, false⟩
/-- How many blocks 'New(n)' has. -/
def howMany (n : Int) : Nat := (min (max n 0) 4096).toNat
def Dv.new (n : Int) : Dv := Dv.newN (howMany n)
/-- The blocks of memory from a to b. -/
def span (a b : Nat) : Nat → Prop := fun k => a ≤ k ∧ k < b
def NewDev (D : Dv) (w : World) (e : Ending) (w' : World) : Prop := ∃ B, e = .returned (.pointer (some ⟨B, 0, none⟩)) ∧ DevAt (span w.heap.size w'.heap.size) w' B D ∧ Below w.heap.size w w'

theorem info_block : (Tryd.prog.info? 109).map (fun i => (i.zero, i.size, i.bytes)) = some (some (.agg #[.string ⟨#[]⟩, .bool false, .bool false, .slice none 0 0]), 4, 48) := by kernel_rfl
theorem und_blocks : Tryd.prog.underlying 90 = some (.slice 109) := by kernel_rfl

theorem made_at (z : Array Value) (n j : Nat) (hj : j < n) : (madeCells z n)[j]? = some (z[j % z.size]!) := by
  simp [madeCells, hj]
theorem newN_fits (m : Nat) (hm : m ≤ 4096) : (Dv.newN m).Fits :=
  ⟨by simpa [Dv.newN] using hm, by simp [Dv.newN, blk0]; intro _; exact Nat.zero_le _, by simp [Dv.newN, blk0], by simp [Dv.newN, blk0], by simp [Dv.newN]⟩
theorem new_at (m : Nat) (hm : m ≤ 4096) (w : World) (M : Array Value) (hM : M = madeCells (Value.agg #[.string ⟨#[]⟩, .bool false, .bool false, .slice none 0 0]).cells (m * 4)) :
    NewDev (Dv.newN m) w (.returned (.pointer (some ⟨w.heap.size + 1, 0, none⟩))) ((w.alloc (.cells M 109)).alloc (.cells #[.slice (some ⟨w.heap.size, 0, none⟩) m m, .int .i64 0, .bool false, .int .i64 0, .bool false] 92)) := by
  refine ⟨w.heap.size + 1, rfl, ⟨w.heap.size, fun _ => .slice none 0 0, M, ?_⟩, ((Below.refl _ w).alloc (Nat.le_refl _) _).alloc (by simp) _⟩
  have hlen : (Dv.newN m).bs.length = m := by simp [Dv.newN]
  have hb0 : ∀ i b, (Dv.newN m).bs[i]? = some b → i < m ∧ b = blk0 := fun i b h => by
    simp only [Dv.newN, List.getElem?_replicate] at h
    split at h
    · exact ⟨by assumption, by simpa using h.symm⟩
    · cases h
  have hcell : ∀ i j, i < m → j < 4 → M[i * 4 + j]? = some ((Value.agg #[.string ⟨#[]⟩, .bool false, .bool false, .slice none 0 0]).cells[j]!) := fun i j hi hj => by
    rw [hM, made_at _ _ _ (by omega)]
    have : (i * 4 + j) % (Value.agg #[.string ⟨#[]⟩, .bool false, .bool false, .slice none 0 0]).cells.size = j := by
      show (i * 4 + j) % 4 = j
      omega
    rw [this]
  refine { hB := ?_, hR := ?_, hC := ?_, cells := ?_, rows := ?_, sB := ?_, sR := ?_, sP := ?_, lt := fun k hk => hk.2, one := ?_, fits := newN_fits m hm }
  · have := heap_alloc_new (w.alloc (.cells M 109)) (.cells #[.slice (some ⟨w.heap.size, 0, none⟩) m m, .int .i64 0, .bool false, .int .i64 0, .bool false] 92)
    rw [World.size_alloc] at this
    rw [this, devCells, hlen]
    rfl
  · rw [heap_alloc_old _ _ (by simp)]
    exact heap_alloc_new w _
  · rw [hM, size_madeCells, hlen]
  · intro i b hb
    obtain ⟨hi, rfl⟩ := hb0 i b hb
    exact ⟨hcell i 0 hi (by omega), hcell i 1 hi (by omega), hcell i 2 hi (by omega), hcell i 3 hi (by omega)⟩
  · intro i b hb
    obtain ⟨hi, rfl⟩ := hb0 i b hb
    exact World.ownsRow_nil _ _ _ _
  · exact ⟨by omega, by simp⟩
  · exact ⟨by omega, by simp; omega⟩
  · intro i k _ hk
    simp [Value.ownBlock] at hk
  · intro i j k _ _ hk
    simp [Value.ownBlock] at hk

theorem make_blocks (m : Nat) (hm : m ≤ 4096) : ∃ M, M = madeCells (Value.agg #[.string ⟨#[]⟩, .bool false, .bool false, .slice none 0 0]).cells (m * 4) ∧
    ∀ W : World, (Instr.makeSlice 90 (.int .i64 (m : Int)) (.int .i64 (m : Int))).run Tryd.prog W = .ok (.slice (some ⟨W.heap.size, 0, none⟩) m m) (W.alloc (.cells M 109)) := by
  obtain ⟨i0, hi, hz0, hz1, hz2⟩ := info_parts info_block
  refine ⟨_, rfl, fun W => ?_⟩
  have h := run_make (P := Tryd.prog) W 90 109 i0 _ und_blocks hi hz0 .i64 .i64 (m : Int) (m : Int) (by omega) (by omega) (by rw [hz2]; omega) (by omega)
  rw [hz1] at h
  simpa using h

theorem new_any (n : Int) (w : World) : Calls Tryd.prog 17 #[.int .i64 n] w fun e w' => NewDev (Dv.new n) w e w' := by
  have hsz : howMany n ≤ 4096 := by unfold howMany; omega
  obtain ⟨M, hM, hmk⟩ := make_blocks (howMany n) hsz
  have HN := new_at (howMany n) hsz w M hM
  clear hM
  unfold Dv.new
  by_cases h0 : n < 0
  · have e0 : howMany n = 0 := by unfold howMany; omega
    rw [e0] at HN hmk ⊢
    simp only [Int.natCast_zero] at hmk
    clear e0
    go_enter Tryd.func17, Tryd.ntmps17
    go_wp2
    go_ret
    exact HN
  · by_cases h1 : n ≤ 4096
    · obtain ⟨m, rfl⟩ : ∃ m : Nat, n = m := ⟨n.toNat, by omega⟩
      have e0 : howMany (m : Int) = m := by unfold howMany; omega
      rw [e0] at HN hmk ⊢
      clear e0
      go_enter Tryd.func17, Tryd.ntmps17
      go_wp2
      go_ret
      exact HN
    · have e0 : howMany n = 4096 := by unfold howMany; omega
      rw [e0] at HN hmk ⊢
      have hmk' : ∀ W : World, (Instr.makeSlice 90 (.int .i64 4096) (.int .i64 4096)).run Tryd.prog W = .ok (.slice (some ⟨W.heap.size, 0, none⟩) 4096 4096) (W.alloc (.cells M 109)) := hmk
      clear e0 hmk
      go_enter Tryd.func17, Tryd.ntmps17
      go_wp2
      go_ret
      exact HN
end Go.Proofs.YtpjbkeheemhlnaaDoor
