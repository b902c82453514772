/- New and Check of a tree. No conditions beyond those in each statement. -/
import Derived.Test.YtblcpihfnpgfiaaGreatDoorTreeGet
namespace Go.Proofs.YtblcpihfnpgfiaaGreatDoor
open Go.RowKit Go.Maps
set_option linter.unusedVariables false
set_option linter.unusedSimpArgs false
set_option maxRecDepth 100000

/-- The root alone. -/
def rootT : List UInt8 → Option Nd := updN (fun _ => none) [47] (some Nd.zero)
set_option maxHeartbeats 2000000 in
theorem new_any (w : World) : Calls Tryz.prog 8 #[] w fun e w' => ∃ tb mb, e = .returned (.pointer (some ⟨tb, 0, none⟩)) ∧ TrW w' tb mb 1 1 rootT ∧ Below w.heap.size w w' ∧ w.heap.size ≤ tb ∧ w.heap.size ≤ mb := by
  have hmm := @run_makeMap Tryz.prog
  have M0 := MapN.new w
  obtain ⟨w1, hrun, M1, g1⟩ := M0.store (by omega) [47] (by decide) Nd.zero
  have hrun2 : (Instr.mapUpdate 68 (.map (some w.heap.size)) (.string ⟨#[47]⟩) (.agg #[.string ⟨#[]⟩, .int .i64 0, .int .i64 0, .int .i64 0, .int .i64 0, .int .i64 0, .int .i64 0])).run Tryz.prog (w.alloc (.map #[] 0)) = .ok () w1 := hrun
  have M2 : MapN w1 w.heap.size 1 1 rootT := M1
  have b1 : Below w.heap.size w w1 := ((Below.refl _ w).alloc (Nat.le_refl _) _).grown g1 (by simp) (fun j hj => by cases hj; exact Nat.le_refl _)
  clear hrun M0 M1 g1
  go_enter Tryz.func8, Tryz.ntmps8
  go_wp2_with fail
  go_ret
  have b2 := b1.alloc b1.size (.cells #[.map (some w.heap.size)] 70)
  exact ⟨w1.heap.size, w.heap.size, rfl, ⟨World.alloc_heap_new w1 _, M2.below ((Below.refl _ w1).alloc (Nat.le_refl _) _)⟩, b2, b1.size, Nat.le_refl _⟩
/-- What Check answers. -/
def chkN (T : List UInt8 → Option Nd) (z : List UInt8) (v : Int) : Int := if checkL z then (match T z with
  | some n => if 0 ≤ v ∧ v ≠ n.ver then 14 else 0
  | none => 11) else 10
set_option maxHeartbeats 4000000 in
theorem chk_any (tb mb k c : Nat) (T : List UInt8 → Option Nd) (z : List UInt8) (v : Int) (w : World) (h : TrW w tb mb k c T) (hz : z.length ≤ 1000000) : Calls Tryz.prog 36 #[.pointer (some ⟨tb, 0, none⟩), .string (bs z), .int .i64 v] w fun e w' => e = .returned (.int .i64 (chkN T z v)) ∧ Below w.heap.size w w' := by
  have HG := Lib.hid (get_any tb mb k c T z w h hz)
  obtain ⟨nd, hnd⟩ : ∃ nd, nd = (getN T z).1 := ⟨_, rfl⟩
  obtain ⟨er, her⟩ : ∃ er, er = (getN T z).2 := ⟨_, rfl⟩
  rw [← hnd, ← her] at HG
  have hcase : (er ≠ 0 ∧ chkN T z v = er) ∨ (er = 0 ∧ (0 ≤ v ∧ v ≠ nd.ver) ∧ chkN T z v = 14) ∨ (er = 0 ∧ ¬ (0 ≤ v ∧ v ≠ nd.ver) ∧ chkN T z v = 0) := by
    rw [hnd, her]; unfold chkN getN
    cases checkL z
    · exact .inl ⟨by simp, by simp⟩
    · cases T z with
      | none => exact .inl ⟨by simp, by simp⟩
      | some n =>
        by_cases hv : 0 ≤ v ∧ v ≠ n.ver
        · exact .inr (.inl ⟨rfl, hv, by simp [hv]⟩)
        · exact .inr (.inr ⟨rfl, hv, by simp [hv]⟩)
  clear hnd her h
  unfold ndV at HG
  rcases hcase with ⟨h1, h2⟩ | ⟨h1, ⟨h3, h4⟩, h2⟩ | ⟨h1, h3, h2⟩
  · rw [h2]
    have e1 : (er != 0) = true := by simpa using h1
    have e2 : (er == 0) = false := by simpa using h1
    clear h2 h1
    go_enter Tryz.func36, Tryz.ntmps36
    go_wp2_with fail
    refine HG.out.mono ?_
    rintro e w1 ⟨rfl, b1⟩
    go_wp2_with fail
    go_ret
    exact ⟨rfl, b1.alloc b1.size _⟩
  · rw [h2]
    subst h1
    have e1 : (v != nd.ver) = true := by simpa using h4
    have e2 : (v == nd.ver) = false := by simpa using h4
    clear h2 h4
    go_enter Tryz.func36, Tryz.ntmps36
    go_wp2_with fail
    refine HG.out.mono ?_
    rintro e w1 ⟨rfl, b1⟩
    go_wp2_with fail
    go_ret
    exact ⟨rfl, b1.alloc b1.size _⟩
  · rw [h2]
    subst h1
    clear h2
    by_cases hv : 0 ≤ v
    · have e1 : (v != nd.ver) = false := by
        have : v = nd.ver := by
          rcases Decidable.em (v = nd.ver) with h | h
          · exact h
          · exact absurd ⟨hv, h⟩ h3
        simpa using this
      have e2 : (v == nd.ver) = true := by simpa using e1
      clear h3
      go_enter Tryz.func36, Tryz.ntmps36
      go_wp2_with fail
      refine HG.out.mono ?_
      rintro e w1 ⟨rfl, b1⟩
      go_wp2_with fail
      go_ret
      exact ⟨rfl, b1.alloc b1.size _⟩
    · have e1 : decide (0 ≤ v) = false := by simpa using hv
      clear h3
      go_enter Tryz.func36, Tryz.ntmps36
      go_wp2_with fail
      refine HG.out.mono ?_
      rintro e w1 ⟨rfl, b1⟩
      go_wp2_with fail
      go_ret
      exact ⟨rfl, b1.alloc b1.size _⟩
end Go.Proofs.YtblcpihfnpgfiaaGreatDoor
