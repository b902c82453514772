/- A store that is nil. No conditions beyond those in each statement. A chunk that a store hasn't. No conditions beyond those in each statement. A device that holds no list; in pure words. No conditions beyond those in each statement. -/
import Derived.Test.YtiknfifiglooeaaDoorChunkOp
namespace Go.Proofs.YtiknfifiglooeaaDoor
section
open Go Go.RowKit Go.Proofs.Tryd
set_option linter.unusedVariables false
set_option maxRecDepth 100000

theorem cscrub_nil (w : World) :
    Calls Tryd.prog 45 #[.pointer none] w fun e w' => e = .returned (.int .i64 1) ∧ w = w' := by
  go_enter Tryd.func45, Tryd.ntmps45
  go_wp2_with fail
  go_ret
  exact ⟨rfl, rfl⟩
theorem cmend_nil (k : Int) (s : ByteArray) (w : World) :
    Calls Tryd.prog 46 #[.pointer none, .int .i64 k, .string s] w fun e w' => e = .returned (.int .i64 1) ∧ w = w' := by
  go_enter Tryd.func46, Tryd.ntmps46
  go_wp2_with fail
  refine (chas_nil k w).mono ?_
  rintro e w1 ⟨rfl, rfl⟩
  go_wp2_with fail
  go_ret
  exact ⟨rfl, rfl⟩
theorem cdata_nil (w : World) :
    Calls Tryd.prog 44 #[.pointer none] w fun e w' => e = .returned (.tuple #[.string ⟨#[]⟩, .int .i64 7]) ∧ w = w' := by
  go_enter Tryd.func44, Tryd.ntmps44
  go_wp2_with fail
  refine (cempty_nil w).mono ?_
  rintro e w1 ⟨rfl, rfl⟩
  go_wp2_with fail
  exact bodyPost_ret (v := .tuple #[.string ⟨#[]⟩, .int .i64 7]) (by simp [results, Tryd.results44, go_sem]) rfl ⟨rfl, rfl⟩
theorem cdata_empty {w : World} {b B : Nat} {base t n area : Int} {sv : Value} (h : CsB w b B base 0 t n sv area) :
    Calls Tryd.prog 44 #[.pointer (some ⟨b, 0, none⟩)] w fun e w' => e = .returned (.tuple #[.string ⟨#[]⟩, .int .i64 7]) ∧ w = w' := by
  have HE := Lib.hid (cempty_any h)
  rw [show decide ((0 : Int) = 0) = true from rfl] at HE
  clear h
  go_enter Tryd.func44, Tryd.ntmps44
  go_wp2_with fail
  refine HE.out.mono ?_
  rintro e w1 ⟨rfl, rfl⟩
  go_wp2_with fail
  exact bodyPost_ret (v := .tuple #[.string ⟨#[]⟩, .int .i64 7]) (by simp [results, Tryd.results44, go_sem]) rfl ⟨rfl, rfl⟩
theorem cscrub_empty {w : World} {b B : Nat} {base t n area : Int} {sv : Value} (h : CsB w b B base 0 t n sv area) :
    Calls Tryd.prog 45 #[.pointer (some ⟨b, 0, none⟩)] w fun e w' => e = .returned (.int .i64 0) ∧ w = w' := by
  have HE := Lib.hid (cempty_any h)
  rw [show decide ((0 : Int) = 0) = true from rfl] at HE
  clear h
  go_enter Tryd.func45, Tryd.ntmps45
  go_wp2_with fail
  refine HE.out.mono ?_
  rintro e w1 ⟨rfl, rfl⟩
  go_wp2_with fail
  go_ret
  exact ⟨rfl, rfl⟩
theorem churt_nil (w : World) :
    Calls Tryd.prog 42 #[.pointer none] w fun e w' => e = .returned (.slice none 0 0) ∧ w = w' := by
  go_enter Tryd.func42, Tryd.ntmps42
  go_wp2_with fail
  refine (cempty_nil w).mono ?_
  rintro e w1 ⟨rfl, rfl⟩
  go_wp2_with fail
  go_ret
  exact ⟨rfl, rfl⟩
theorem churt_empty {w : World} {b B : Nat} {base t n area : Int} {sv : Value} (h : CsB w b B base 0 t n sv area) :
    Calls Tryd.prog 42 #[.pointer (some ⟨b, 0, none⟩)] w fun e w' => e = .returned (.slice none 0 0) ∧ w = w' := by
  have HE := Lib.hid (cempty_any h)
  rw [show decide ((0 : Int) = 0) = true from rfl] at HE
  clear h
  go_enter Tryd.func42, Tryd.ntmps42
  go_wp2_with fail
  refine HE.out.mono ?_
  rintro e w1 ⟨rfl, rfl⟩
  go_wp2_with fail
  go_ret
  exact ⟨rfl, rfl⟩
end
section
open Go Go.RowKit Go.Proofs.Tryd
set_option linter.unusedVariables false
set_option maxRecDepth 100000

theorem cmend_no {w : World} {b B : Nat} {base i t n area : Int} {sa : Option Addr} {m cap : Nat} (k : Int) (s : ByteArray) (hk : -9223372036854775808 ≤ k ∧ k ≤ 9223372036854775807) (h : CsB w b B base i t n (.slice sa m cap) area) (h0 : ¬ (i ≠ 0 ∧ 0 ≤ k ∧ k < (m : Int))) :
    Calls Tryd.prog 46 #[.pointer (some ⟨b, 0, none⟩), .int .i64 k, .string s] w fun e w' => e = .returned (.int .i64 1) ∧ w = w' := by
  have HE := Lib.hid (chas_any k hk h)
  rw [show decide (i ≠ 0 ∧ 0 ≤ k ∧ k < (m : Int)) = false from decide_eq_false h0] at HE
  clear h h0 hk
  go_enter Tryd.func46, Tryd.ntmps46
  go_wp2_with fail
  refine HE.out.mono ?_
  rintro e w1 ⟨rfl, rfl⟩
  go_wp2_with fail
  go_ret
  exact ⟨rfl, rfl⟩
theorem cchunk_nil (k : Int) (w : World) :
    Calls Tryd.prog 43 #[.pointer none, .int .i64 k] w fun e w' => e = .returned (.tuple #[.string ⟨#[]⟩, .int .i64 7]) ∧ w = w' := by
  go_enter Tryd.func43, Tryd.ntmps43
  go_wp2_with fail
  refine (chas_nil k w).mono ?_
  rintro e w1 ⟨rfl, rfl⟩
  go_wp2_with fail
  exact bodyPost_ret (v := .tuple #[.string ⟨#[]⟩, .int .i64 7]) (by simp [results, Tryd.results43, go_sem]) rfl ⟨rfl, rfl⟩
theorem cchunk_no {w : World} {b B : Nat} {base i t n area : Int} {sa : Option Addr} {m cap : Nat} (k : Int) (hk : -9223372036854775808 ≤ k ∧ k ≤ 9223372036854775807) (h : CsB w b B base i t n (.slice sa m cap) area) (h0 : ¬ (i ≠ 0 ∧ 0 ≤ k ∧ k < (m : Int))) :
    Calls Tryd.prog 43 #[.pointer (some ⟨b, 0, none⟩), .int .i64 k] w fun e w' => e = .returned (.tuple #[.string ⟨#[]⟩, .int .i64 7]) ∧ w = w' := by
  have HE := Lib.hid (chas_any k hk h)
  rw [show decide (i ≠ 0 ∧ 0 ≤ k ∧ k < (m : Int)) = false from decide_eq_false h0] at HE
  clear h h0 hk
  go_enter Tryd.func43, Tryd.ntmps43
  go_wp2_with fail
  refine HE.out.mono ?_
  rintro e w1 ⟨rfl, rfl⟩
  go_wp2_with fail
  exact bodyPost_ret (v := .tuple #[.string ⟨#[]⟩, .int .i64 7]) (by simp [results, Tryd.results43, go_sem]) rfl ⟨rfl, rfl⟩
end
section
open Go Go.RowKit Go.Proofs.Tryd
set_option linter.unusedVariables false
set_option maxRecDepth 100000

theorem listF_none {r : Rc} (h : r.kind ≠ 4) : listF r = ls0 := by unfold listF; exact if_neg (fun e => h e.1)
theorem copyF_none {D : Dv} {q : Int} (h : (D.sread q).1.kind ≠ 4) (h0 : (D.sread q).2.2 = 0) : copyF D q = (ls0, 0) := by unfold copyF; rw [if_pos h0, listF_none h]
theorem openF_none {D : Dv} {base : Int} (h : ∀ q, base ≤ q → q < base + 132 → (D.sread q).1.kind ≠ 4 ∧ (D.sread q).2.2 = 0) : openF D base opnQ (ls0, 0) = ((ls0, 0), 0) := by
  have hc : ∀ ar n : Int, 0 ≤ ar → ar ≤ 1 → 0 ≤ n → n ≤ 1 → copyF D (base + ar * 66 + n) = (ls0, 0) := fun ar n h1 h2 h3 h4 => by
    obtain ⟨k1, k2⟩ := h (base + ar * 66 + n) (by omega) (by omega)
    exact copyF_none k1 k2
  have hs : ∀ ar n : Int, 0 ≤ ar → ar ≤ 1 → 0 ≤ n → n ≤ 1 → openS D base ar n (ls0, 0) = (ls0, 0) := fun ar n h1 h2 h3 h4 => by
    unfold openS
    rw [hc ar n h1 h2 h3 h4]
    exact if_neg (by show ¬ (0 : Int) < 0; omega)
  unfold opnQ
  rw [openF_cons, hc 0 0 (by omega) (by omega) (by omega) (by omega), if_pos rfl, hs 0 0 (by omega) (by omega) (by omega) (by omega),
    openF_cons, hc 0 1 (by omega) (by omega) (by omega) (by omega), if_pos rfl, hs 0 1 (by omega) (by omega) (by omega) (by omega),
    openF_cons, hc 1 0 (by omega) (by omega) (by omega) (by omega), if_pos rfl, hs 1 0 (by omega) (by omega) (by omega) (by omega),
    openF_cons, hc 1 1 (by omega) (by omega) (by omega) (by omega), if_pos rfl, hs 1 1 (by omega) (by omega) (by omega) (by omega)]
  rfl
end
end Go.Proofs.YtiknfifiglooeaaDoor
