/- container/heap's up at a transit. No conditions beyond those in each statement. -/
import Derived.Test.YtfijidaohlnphaaNMath
namespace Go.Proofs.Ytfijidaohlnphaa
open Go.RowKit
set_option linter.unusedVariables false
set_option linter.unusedSimpArgs false
set_option maxRecDepth 100000

/-- A net's box and its row, some steps behind another world. -/
structure NWr (w0 w : World) (base nb : Nat) (now sent : Int) (v : Value) (M : List Fl) : Prop where
  row : NRow w base v M
  box : NBx w nb now sent v
  gr : w0.grownBy w v.ownBlock
theorem grown_trans {a b c : World} {r : Option Nat} (h : a.grownBy b r) (k : b.grownBy c r) : a.grownBy c r :=
  ⟨k.os.trans h.os, k.tape.trans h.tape, k.output.trans h.output, Nat.le_trans h.size k.size, fun i hi hne => (k.block i (Nat.lt_of_lt_of_le hi h.size) hne).trans (h.block i hi hne)⟩
section
variable {w0 w : World} {base nb : Nat} {now sent : Int} {v : Value} {M : List Fl}
theorem NWr.less (h : NWr w0 w base nb now sent v M) (i j : Nat) (hi : i < M.length) (hj : j < M.length) :
    Calls Try.prog 38 #[v, .int .i64 i, .int .i64 j] w fun e w' => e = .returned (.bool (lessF (M.getD i Fl.zero) (M.getD j Fl.zero))) ∧ NWr w0 w' base nb now sent v M := by
  refine (less_any h.row i j hi hj).mono ?_
  rintro e w' ⟨he, q, rfl⟩
  exact ⟨he, ⟨h.row.same (fun _ _ => rfl) (fun _ _ => rfl), h.box, ⟨h.gr.os, h.gr.tape, h.gr.output, h.gr.size, h.gr.block⟩⟩⟩
theorem NWr.swap (h : NWr w0 w base nb now sent v M) (i j : Nat) (hi : i < M.length) (hj : j < M.length) :
    Calls Try.prog 39 #[v, .int .i64 i, .int .i64 j] w fun e w' => e = .returned (.tuple #[]) ∧ NWr w0 w' base nb now sent v (swapL M i j) := by
  refine (swap_any h.row i j hi hj).mono ?_
  rintro e w' ⟨he, h1, h2⟩
  refine ⟨he, ⟨h1, h.box.same (h2.block nb h.box.lt fun e => ?_), grown_trans h.gr h2⟩⟩
  obtain ⟨_, _, cs, hcs⟩ := h.row.own e.symm
  exact h.box.ne_row hcs rfl
theorem NWr.mL (h : NWr w0 w base nb now sent v M) : (method 189 54 (.pointer (some ⟨nb, 2, none⟩)) "Less").run Try.prog w = .ok (38, v) w := mLess h.box.c2 h.row.sl
theorem NWr.mS (h : NWr w0 w base nb now sent v M) : (method 189 54 (.pointer (some ⟨nb, 2, none⟩)) "Swap").run Try.prog w = .ok (39, v) w := mSwap h.box.c2 h.row.sl
theorem NWr.mN (h : NWr w0 w base nb now sent v M) : (method 189 54 (.pointer (some ⟨nb, 2, none⟩)) "Len").run Try.prog w = .ok (14, v) w := mLen h.box.c2 h.row.sl
end
/-- The state of up's loop. -/
structure UpS (w0 w : World) (base nb : Nat) (now sent : Int) (v : Value) (L M : List Fl) (j : Nat) : Prop where
  wr : NWr w0 w base nb now sent v M
  lt : j < M.length
  perm : M.Perm L
  up : UpI M M.length j
set_option maxHeartbeats 4000000 in
theorem up_any {w : World} {base nb : Nat} {now sent : Int} {v : Value} {L : List Fl} (h : NRow w base v L) (hn : NBx w nb now sent v) (j : Nat) (hj : j < L.length) (hu : UpI L L.length j) :
    Calls Try.prog 18 #[.iface 54 (.pointer (some ⟨nb, 2, none⟩)), .int .i64 j] w fun e w' => e = .returned (.tuple #[]) ∧ ∃ M, M.Perm L ∧ HeapL M M.length ∧ NWr w w' base nb now sent v M := by
  have HS : Hid (UpS w w base nb now sent v L L j) := Lib.hid ⟨⟨h, hn, ⟨rfl, rfl, rfl, Nat.le_refl _, fun _ _ _ => rfl⟩⟩, hj, List.Perm.refl _, hu⟩
  clear h hn hj hu
  go_enter Try.func18, Try.ntmps18
  go_wp2_with fail
  go_loopw [1] (fun jv wr => ∃ (j : Nat) (M : List Fl), jv = .int .i64 j ∧ Hid (UpS w wr base nb now sent v L M j)) (fun jv _ => (intOf jv).toNat)
  case atStart => exact ⟨j, L, rfl, HS⟩
  case round =>
    obtain ⟨j, M, rfl, HR⟩ := hrel
    clear HS
    by_cases h0 : j = 0
    · subst h0
      go_wp2_with fail
      refine bodyPost_end (results_none rfl _ _ _) rfl ?_
      exact ⟨rfl, M, HR.out.perm, HR.out.up.done (.inl rfl), HR.out.wr⟩
    · obtain ⟨i, rfl⟩ : ∃ i, j = i + 1 := ⟨j - 1, by omega⟩
      have hlt := HR.out.lt
      have hl2 := HR.out.wr.row.1
      obtain ⟨p, hp⟩ : ∃ p, p = i / 2 := ⟨_, rfl⟩
      have HP : Hid (p = (i + 1 - 1) / 2) := Lib.hid (by rw [hp]; rfl)
      have e2 : wrap64 ((wrap64 (i : Int)).tdiv 2) = (p : Int) := by rw [IntWalk.wrap64_in (i : Int) (by omega), Int.tdiv_eq_ediv_of_nonneg (by omega), IntWalk.wrap64_in _ (by omega)]; omega
      have e3 : ¬ ((p : Int) = (i : Int) + 1) := by omega
      have e4 : ((p : Int) == (i : Int) + 1) = false := by simp; omega
      have HLE : Hid (Calls Try.prog 38 #[v, .int .i64 ((i : Int) + 1), .int .i64 p] wr fun e w' => e = .returned (.bool (lessF (M.getD (i + 1) Fl.zero) (M.getD p Fl.zero))) ∧ NWr w w' base nb now sent v M) := Lib.hid (HR.out.wr.less (i + 1) p hlt (by omega))
      have mL := HR.out.wr.mL
      have HPL : Hid (p < M.length) := Lib.hid (by omega)
      have HPI : Hid (p < i + 1) := Lib.hid (by omega)
      clear hp h0 hlt hl2
      go_wp2_with fail
      refine HLE.out.mono ?_
      rintro e w1 ⟨rfl, HW1⟩
      have HW := Lib.hid HW1
      have mS := HW1.mS
      clear mL HLE HW1
      cases hB : lessF (M.getD (i + 1) Fl.zero) (M.getD p Fl.zero) with
      | false =>
        have HB := Lib.hid hB
        clear hB
        go_wp2_with fail
        refine bodyPost_end (results_none rfl _ _ _) rfl ?_
        exact ⟨rfl, M, HR.out.perm, HR.out.up.done (.inr (by rw [← HP.out]; exact HB.out)), HW.out⟩
      | true =>
        have HB := Lib.hid hB
        have HSW : Hid (Calls Try.prog 39 #[v, .int .i64 p, .int .i64 ((i : Int) + 1)] w1 fun e w' => e = .returned (.tuple #[]) ∧ NWr w w' base nb now sent v (swapL M p (i + 1))) := Lib.hid (HW.out.swap p (i + 1) HPL.out HR.out.lt)
        clear hB
        go_wp2_with fail
        refine HSW.out.mono ?_
        rintro e w2 ⟨rfl, HW2⟩
        have HX := Lib.hid HW2
        clear mS HSW HW2
        go_wp2_with fail
        go_roundw
        case rel =>
          refine ⟨p, swapL M p (i + 1), rfl, Lib.hid ⟨HX.out, by rw [swapL_len]; exact HPL.out, (swapL_perm HPL.out HR.out.lt).trans HR.out.perm, ?_⟩⟩
          have := HR.out.up.swap (by omega) HR.out.lt (Nat.le_refl _) (by rw [← HP.out]; exact HB.out)
          rw [← HP.out] at this
          rw [swapL_len]; exact this
        case measure =>
          have := HPI.out
          simp [intOf]; omega
end Go.Proofs.Ytfijidaohlnphaa
