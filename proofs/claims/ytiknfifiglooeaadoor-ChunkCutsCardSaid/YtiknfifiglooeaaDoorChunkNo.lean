/- A chunk that a store hasn't. No conditions beyond those in each statement. -/
import Derived.Test.YtiknfifiglooeaaDoorChunkNil
namespace Go.Proofs.YtiknfifiglooeaaDoor
open Go Go.RowKit Go.Proofs.Tryd
set_option linter.unusedVariables false
set_option maxRecDepth 100000

theorem cmend_no {w : World} {b B : Nat} {base i t n area : Int} {sa : Option Addr} {m cap : Nat} (k : Int) (s : ByteArray) (hk : -9223372036854775808 ≤ k ∧ k ≤ 9223372036854775807) (h : CsB w b B base i t n (.slice sa m cap) area) (h0 : ¬ (i ≠ 0 ∧ 0 ≤ k ∧ k < (m : Int))) :
    Calls Tryd.prog 46 #[.pointer (some ⟨b, 0, none⟩), .int .i64 k, .string s] w fun e w' => e = .returned (.int .i64 1) ∧ w = w' := by
  have HE := Lib.hid (chas_any k hk h)
  rw [show decide (i ≠ 0 ∧ 0 ≤ k ∧ k < (m : Int)) = false from decide_eq_false h0] at HE
  clear h h0 hk
  go_enter Tryd.func46, Tryd.ntmps46
  go_wp2_with fail
  refine HE.out.mono ?_
  rintro e w1 ⟨rfl, rfl⟩
  go_wp2_with fail
  go_ret
  exact ⟨rfl, rfl⟩
theorem cchunk_nil (k : Int) (w : World) :
    Calls Tryd.prog 43 #[.pointer none, .int .i64 k] w fun e w' => e = .returned (.tuple #[.string ⟨#[]⟩, .int .i64 7]) ∧ w = w' := by
  go_enter Tryd.func43, Tryd.ntmps43
  go_wp2_with fail
  refine (chas_nil k w).mono ?_
  rintro e w1 ⟨rfl, rfl⟩
  go_wp2_with fail
  exact bodyPost_ret (v := .tuple #[.string ⟨#[]⟩, .int .i64 7]) (by simp [results, Tryd.results43, go_sem]) rfl ⟨rfl, rfl⟩
theorem cchunk_no {w : World} {b B : Nat} {base i t n area : Int} {sa : Option Addr} {m cap : Nat} (k : Int) (hk : -9223372036854775808 ≤ k ∧ k ≤ 9223372036854775807) (h : CsB w b B base i t n (.slice sa m cap) area) (h0 : ¬ (i ≠ 0 ∧ 0 ≤ k ∧ k < (m : Int))) :
    Calls Tryd.prog 43 #[.pointer (some ⟨b, 0, none⟩), .int .i64 k] w fun e w' => e = .returned (.tuple #[.string ⟨#[]⟩, .int .i64 7]) ∧ w = w' := by
  have HE := Lib.hid (chas_any k hk h)
  rw [show decide (i ≠ 0 ∧ 0 ≤ k ∧ k < (m : Int)) = false from decide_eq_false h0] at HE
  clear h h0 hk
  go_enter Tryd.func43, Tryd.ntmps43
  go_wp2_with fail
  refine HE.out.mono ?_
  rintro e w1 ⟨rfl, rfl⟩
  go_wp2_with fail
  exact bodyPost_ret (v := .tuple #[.string ⟨#[]⟩, .int .i64 7]) (by simp [results, Tryd.results43, go_sem]) rfl ⟨rfl, rfl⟩
end Go.Proofs.YtiknfifiglooeaaDoor
