/- The model's New: so many empty blocks; no condition. -/
import Derived.Test.YtmfkbddfjfjfkaaMdMem
import Derived.RegionTactic
namespace Go.Proofs.Ytmfkbddfjfjfkaa
open Go.RowKit
set_option linter.unusedVariables false

def Md.newN (m : Nat) : Md := ⟨List.replicate m ⟨#[]⟩, [], List.replicate m false, List.replicate m false, -1, false⟩
def Md.new (n : Int) : Md := Md.newN (howMany n)
def NewMd (M : Md) (w : World) (e : Ending) (w' : World) : Prop := ∃ B, e = .returned (.pointer (some ⟨B, 0, none⟩)) ∧ MdAt (span w.heap.size w'.heap.size) w' B M ∧ Below w.heap.size w w'
theorem mnewN_fits (m : Nat) (hm : m ≤ 4096) : (Md.newN m).Fits :=
  ⟨by simpa [Md.newN] using hm, by simp [Md.newN], by simp [Md.newN], (fun s hs => by simp [Md.newN] at hs; rw [hs.2]; exact Nat.zero_le _), by simp [Md.newN], by simp [Md.newN], by simp [Md.newN]⟩

theorem info_string : (Try.prog.info? 9).map (fun i => (i.zero, i.size, i.bytes)) = some (some (.string ⟨#[]⟩), 1, 16) := by kernel_rfl
theorem info_bool : (Try.prog.info? 4).map (fun i => (i.zero, i.size, i.bytes)) = some (some (.bool false), 1, 1) := by kernel_rfl
theorem und_strings : Try.prog.underlying 43 = some (.slice 9) := by kernel_rfl
theorem und_bools : Try.prog.underlying 56 = some (.slice 4) := by kernel_rfl
theorem madeS (m : Nat) : madeCells (Value.string ⟨#[]⟩).cells (m * 1) = strCells (List.replicate m ⟨#[]⟩) := by
  apply Array.ext
  · simp [madeCells, strCells]
  · intro i h1 h2
    simp [madeCells, strCells, Value.cells, Nat.mod_one]
theorem madeB (m : Nat) : madeCells (Value.bool false).cells (m * 1) = boolCells (List.replicate m false) := by
  apply Array.ext
  · simp [madeCells, boolCells]
  · intro i h1 h2
    simp [madeCells, boolCells, Value.cells, Nat.mod_one]
theorem make_strings (m : Nat) (hm : m ≤ 4096) : ∀ W : World, (Instr.makeSlice 43 (.int .i64 (m : Int)) (.int .i64 (m : Int))).run Try.prog W = .ok (.slice (some ⟨W.heap.size, 0, none⟩) m m) (W.alloc (.cells (strCells (List.replicate m ⟨#[]⟩)) 9)) := by
  obtain ⟨i0, hi, hz0, hz1, hz2⟩ := info_parts info_string
  intro W
  have h := run_make (P := Try.prog) W 43 9 i0 _ und_strings hi hz0 .i64 .i64 (m : Int) (m : Int) (by omega) (by omega) (by rw [hz2]; omega) (by omega)
  rw [hz1, Int.toNat_natCast, madeS] at h
  exact h
theorem make_bools (m : Nat) (hm : m ≤ 4096) : ∀ W : World, (Instr.makeSlice 56 (.int .i64 (m : Int)) (.int .i64 (m : Int))).run Try.prog W = .ok (.slice (some ⟨W.heap.size, 0, none⟩) m m) (W.alloc (.cells (boolCells (List.replicate m false)) 4)) := by
  obtain ⟨i0, hi, hz0, hz1, hz2⟩ := info_parts info_bool
  intro W
  have h := run_make (P := Try.prog) W 56 4 i0 _ und_bools hi hz0 .i64 .i64 (m : Int) (m : Int) (by omega) (by omega) (by rw [hz2]; omega) (by omega)
  rw [hz1, Int.toNat_natCast, madeB] at h
  exact h

theorem mnew_at (m : Nat) (hm : m ≤ 4096) (w : World) (X : World) (RS RG RH : Nat) (hb : Below w.heap.size w X) (hS : Whole X RS 9 (strCells (List.replicate m ⟨#[]⟩))) (hG : Whole X RG 4 (boolCells (List.replicate m false))) (hH : Whole X RH 4 (boolCells (List.replicate m false)))
    (h1 : w.heap.size ≤ RS) (h2 : w.heap.size ≤ RG) (h3 : w.heap.size ≤ RH) (hne : RG ≠ RH) (Bx : Nat) (hX : X.heap.size = Bx) :
    NewMd (Md.newN m) w (.returned (.pointer (some ⟨Bx, 0, none⟩))) (X.alloc (.cells #[.int .i64 m, .slice (some ⟨RS, 0, none⟩) m m, .slice none 0 0, .slice (some ⟨RG, 0, none⟩) m m, .slice (some ⟨RH, 0, none⟩) m m, .int .i64 (-1), .bool false] 59)) := by
  subst hX
  have hsz := hb.size
  refine ⟨X.heap.size, rfl, ⟨RS, RG, RH, .slice none 0 0, ?_⟩, hb.alloc hb.size _⟩
  have hB := Whole.new X 59 #[.int .i64 m, .slice (some ⟨RS, 0, none⟩) m m, .slice none 0 0, .slice (some ⟨RG, 0, none⟩) m m, .slice (some ⟨RH, 0, none⟩) m m, .int .i64 (-1), .bool false]
  have hl : (Md.newN m).safe.length = m := by simp [Md.newN]
  exact { hB := by rw [mdCells, hl]; exact hB, hS := hS.alloc _, hG := hG.alloc _, hH := hH.alloc _, row := World.ownsRow_nil _ _ _ _, sB := ⟨hsz, by simp⟩, sS := ⟨h1, by have := hS.lt; simp; omega⟩, sG := ⟨h2, by have := hG.lt; simp; omega⟩, sH := ⟨h3, by have := hH.lt; simp; omega⟩
          sP := (fun k hk => by simp [Value.ownBlock] at hk), lt := fun k hk => hk.2, ne := hne, fits := mnewN_fits m hm }

theorem NewMd.drew {M : Md} {w w' : World} {e : Ending} (h : NewMd M w e w') : NewMd M w e w'.drew := by
  obtain ⟨B, he, hm, hb⟩ := h
  exact ⟨B, he, hm.below ⟨rfl, rfl, rfl, Nat.le_refl _, fun _ _ => rfl⟩, hb.drew⟩
theorem three (w : World) (A B C : Obj) : (((w.alloc A).alloc B).alloc C).heap[w.heap.size]? = some A ∧ (((w.alloc A).alloc B).alloc C).heap[w.heap.size + 1]? = some B ∧ (((w.alloc A).alloc B).alloc C).heap[w.heap.size + 1 + 1]? = some C ∧ Below w.heap.size w (((w.alloc A).alloc B).alloc C) := by
  refine ⟨?_, ?_, ?_, (((Below.refl _ w).alloc (Nat.le_refl _) _).alloc (by simp) _).alloc (by simp; omega) _⟩
  · rw [Below.heap_alloc _ _ _ (by simp; omega), Below.heap_alloc _ _ _ (by simp)]
    exact World.alloc_heap_new w A
  · rw [Below.heap_alloc _ _ _ (by simp)]
    have := World.alloc_heap_new (w.alloc A) B
    rwa [World.size_alloc] at this
  · have := World.alloc_heap_new ((w.alloc A).alloc B) C
    rwa [World.size_alloc, World.size_alloc] at this

set_option maxHeartbeats 1000000 in
theorem mnew_nat (m : Nat) (hm : m ≤ 4096) (w : World) : Calls Try.prog 11 #[.int .i64 m] w fun e w' => NewMd (Md.newN m) w e w' := by
  have hms := make_strings m hm
  have hmb := make_bools m hm
  have HN := Lib.hid (mnew_at m hm w)
  have hmin : min (m : Int) 4096 = m := by omega
  go_enter Try.func11, Try.ntmps11
  go_wp2
  go_region
  all_goals
    go_wp2
    go_ret
    show NewMd (Md.newN m) w (.returned (.pointer (some ⟨w.heap.size + 1 + 1 + 1, 0, none⟩))) _
    refine NewMd.drew (HN.out (((w.alloc _).alloc _).alloc _) _ _ _ (three w _ _ _).2.2.2 ?_ ?_ ?_ ?_ ?_ ?_ ?_ (w.heap.size + 1 + 1 + 1) (by simp))
    all_goals first
      | exact (three w _ _ _).1
      | exact (three w _ _ _).2.1
      | exact (three w _ _ _).2.2.1
      | omega
theorem mnew_any (n : Int) (hn : n ≤ 4096) (w : World) : Calls Try.prog 11 #[.int .i64 n] w fun e w' => NewMd (Md.new n) w e w' := by
  by_cases h0 : 0 ≤ n
  · obtain ⟨m, rfl⟩ : ∃ m : Nat, n = m := ⟨n.toNat, by omega⟩
    have e0 : Md.new (m : Int) = Md.newN m := by unfold Md.new; congr 1; unfold howMany; omega
    rw [e0]
    exact mnew_nat m (by omega) w
  · have e0 : Md.new n = Md.newN 0 := by unfold Md.new; congr 1; unfold howMany; omega
    rw [e0]
    have hms : ∀ W : World, (Instr.makeSlice 43 (.int .i64 0) (.int .i64 0)).run Try.prog W = .ok (.slice (some ⟨W.heap.size, 0, none⟩) 0 0) (W.alloc (.cells (strCells (List.replicate 0 ⟨#[]⟩)) 9)) := make_strings 0 (by omega)
    have hmb : ∀ W : World, (Instr.makeSlice 56 (.int .i64 0) (.int .i64 0)).run Try.prog W = .ok (.slice (some ⟨W.heap.size, 0, none⟩) 0 0) (W.alloc (.cells (boolCells (List.replicate 0 false)) 4)) := make_bools 0 (by omega)
    have HN := Lib.hid (mnew_at 0 (by omega) w)
    have hmax : max n 0 = 0 := by omega
    have hmin : min (0 : Int) 4096 = 0 := by omega
    go_enter Try.func11, Try.ntmps11
    go_wp2
    go_region
    all_goals
      go_wp2
      go_ret
      show NewMd (Md.newN 0) w (.returned (.pointer (some ⟨w.heap.size + 1 + 1 + 1, 0, none⟩))) _
      refine NewMd.drew (HN.out (((w.alloc _).alloc _).alloc _) _ _ _ (three w _ _ _).2.2.2 ?_ ?_ ?_ ?_ ?_ ?_ ?_ (w.heap.size + 1 + 1 + 1) (by simp))
      all_goals first
        | exact (three w _ _ _).1
        | exact (three w _ _ _).2.1
        | exact (three w _ _ _).2.2.1
        | omega
end Go.Proofs.Ytmfkbddfjfjfkaa
