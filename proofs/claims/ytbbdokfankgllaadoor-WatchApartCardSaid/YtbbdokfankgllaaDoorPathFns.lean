/- Up of package path. No conditions beyond those in each statement. -/
import Derived.Test.YtbbdokfankgllaaDoorPathPart
import Derived.Test.YtbbdokfankgllaaDoorShelf
import Derived.WalkSpells
import Derived.WalkLawsBesides
import Derived.Deep.QuietTactic
import Derived.BigQuiet
import Derived.Below
import Derived.Lib.TrimByte
namespace Go.Proofs.YtbbdokfankgllaaDoor
open Go.RowKit
set_option linter.unusedVariables false
set_option maxRecDepth 100000

/-- A text of these bytes. -/
def bs (l : List UInt8) : ByteArray := ⟨l.toArray⟩
theorem bs_list (l : List UInt8) : (bs l).data.toList = l := by simp [bs]
theorem bs_size (l : List UInt8) : (bs l).size = l.length := by rw [Lib.size_eq, bs_list]
theorem bs_of (s : ByteArray) : bs s.data.toList = s := by cases s; simp [bs]
theorem bs_app (a b : List UInt8) : bs a ++ bs b = bs (a ++ b) := by
  apply ByteArray.ext; simp [bs]
theorem bs_inj {a b : List UInt8} (h : bs a = bs b) : a = b := by rw [← bs_list a, h, bs_list]
theorem eq_true {s : ByteArray} {l : List UInt8} (h : s.data.toList = l) : (s.toList == l) = true := by rw [Lib.toList_data, h]; simp
theorem eq_false {s : ByteArray} {l : List UInt8} (h : s.data.toList ≠ l) : (s.toList == l) = false := by rw [Lib.toList_data]; simpa using h
theorem ret_s {a b : ByteArray} (h : a = b) : Ending.returned (.string a) = .returned (.string b) := by rw [h]
theorem app_bs (s p : ByteArray) : s ++ p = bs (s.data.toList ++ p.data.toList) := by
  apply ByteArray.ext; simp [bs]
theorem bang_list (l : List UInt8) (j : Nat) (hj : j < l.length) : (bs l).data[j]! = l[j] := by
  simp [bs, hj]
theorem last_slash (x q : List UInt8) (hq : (47 : UInt8) ∉ q) : Lib.lastIndexByte (bs (x ++ 47 :: q)) 47 = (x.length : Int) := by
  have hsz : (bs (x ++ 47 :: q)).size = x.length + (q.length + 1) := by rw [bs_size]; simp
  have hl : x.length < (x ++ 47 :: q).length := by simp
  have hat : ((bs (x ++ 47 :: q)).data[x.length]!) = 47 := by rw [bang_list _ _ hl]; simp
  unfold Lib.lastIndexByte
  rcases Lib.lastIdx_spec (bs (x ++ 47 :: q)) 47 (bs (x ++ 47 :: q)).size with ⟨_, h⟩ | ⟨i, hi, h, h1, h2⟩
  · exact absurd (by rw [hat]; rfl) (h x.length (by omega))
  · rw [h]
    rcases Nat.lt_trichotomy i x.length with hlt | heq | hgt
    · exact absurd (by rw [hat]; rfl) (h2 x.length hlt (by omega))
    · rw [heq]
    · exfalso
      rw [hsz] at hi
      have hi' : i < (x ++ 47 :: q).length := by simp; omega
      rw [bang_list _ _ hi'] at h1
      apply hq
      obtain ⟨m, rfl⟩ : ∃ m, i = x.length + (m + 1) := ⟨i - x.length - 1, by omega⟩
      have hm : m < q.length := by omega
      have e : (x ++ 47 :: q)[x.length + (m + 1)] = q[m] := by simp
      rw [e] at h1
      have : q[m] = 47 := UInt8.toNat_inj.1 (by have h47 : (47 : UInt8).toNat = 47 := rfl; omega)
      rw [← this]; exact List.getElem_mem _
/-- What Up answers, of x, a slash and q. -/
def upB (x : List UInt8) : List UInt8 := if x = [] then [47] else x
theorem ext_pre (x q : List UInt8) (n : Nat) (h : n = x.length) : (bs (x ++ q)).extract 0 n = bs x := by
  subst h; unfold bs; rw [Lib.extract_mk]; simp
theorem ext_suf (x q : List UInt8) (a b : Nat) (h : a = x.length) (h2 : (x ++ q).length ≤ b) : (bs (x ++ q)).extract a b = bs q := by
  subst h; unfold bs; rw [Lib.extract_mk]; simp at h2 ⊢
  congr 1
  rw [List.take_of_length_le (by omega)]
theorem ret_ss {a b c d : ByteArray} (h : a = b) (h2 : c = d) : Ending.returned (.tuple #[.string a, .string c]) = .returned (.tuple #[.string b, .string d]) := by rw [h, h2]
set_option maxHeartbeats 2000000 in
theorem up_any (x q : List UInt8) (w : World) (hq : (47 : UInt8) ∉ q) (hx : x.length ≤ 1000000) (hql : q.length ≤ 1000000) (hn : x = [] → q ≠ []) : Calls Tryd.prog 41 #[.string (bs (x ++ 47 :: q))] w fun e w' => e = .returned (.tuple #[.string (bs (upB x)), .string (bs q)]) ∧ ∃ n, w' = w.drewN n := by
  have hsz : (bs (x ++ 47 :: q)).size = x.length + (q.length + 1) := by rw [bs_size]; simp
  have hr : (bs (x ++ 47 :: q)).data.toList ≠ [47] := by
    rw [bs_list]; intro e
    cases x with
    | nil => simp at e; exact hn rfl e
    | cons a l => simp at e
  have er := eq_false hr
  have HL := Lib.hid (last_slash x q hq)
  have HA := Lib.hid (Tryd.strings_LastIndexByte (bs (x ++ 47 :: q)) 47 (by omega) w)
  have HS := Lib.hid hsz
  obtain ⟨s, hs⟩ : ∃ s, s = bs (x ++ 47 :: q) := ⟨_, rfl⟩
  rw [← hs] at er HL HA HS ⊢
  have HS2 := Lib.hid hs
  have hb1 : s.size ≤ 2000001 := by rw [hs]; omega
  have hb2 : x.length + 1 ≤ s.size := by rw [hs]; omega
  have hb3 : (x.length : Int) + 1 ≤ (s.size : Int) := by omega
  clear hs hsz hr hn
  go_enter Tryd.func41, Tryd.ntmps41
  go_wp2_with fail
  refine HA.out.mono ?_
  rintro e w' ⟨rfl, rfl⟩
  rw [HL.out]
  by_cases h0 : x = []
  · have HX := Lib.hid h0
    have hx0 : x.length = 0 := by simp [h0]
    rw [hx0]
    have hm : max (0 : Int) 1 = 1 := by decide
    have hb4 : (1 : Int) ≤ (s.size : Int) := by omega
    have hb5 : 1 ≤ s.size := by omega
    clear h0 hx0
    go_wp2_with fail
    go_quiet (fail)
    go_wp2_with fail
    go_ret2
    have h0 := HX.out
    subst h0
    exact ⟨ret_ss (by rw [HS2.out]; exact ext_pre [47] q 1 rfl) (by rw [HS2.out]; exact ext_suf [47] q 1 _ rfl (by rw [bs_size]; simp)), _, rfl⟩
  · have hx1 : 1 ≤ x.length := by cases x with
      | nil => exact absurd rfl h0
      | cons a l => simp
    have hx2 : (1 : Int) ≤ (x.length : Int) := by omega
    have hm : max (x.length : Int) 1 = (x.length : Int) := by omega
    have e2 : IntKind.i64.wrap ((x.length : Int) + 1) = ((x.length + 1 : Nat) : Int) := by rw [IntWalk.i64_in _ (by omega)]; push_cast; rfl
    have d1 : decide ((x.length : Int) < 0) = false := by simp
    clear h0
    go_wp2_with fail
    go_quiet (fail)
    go_wp2_with fail
    go_ret2
    refine ⟨ret_ss (by rw [HS2.out, ext_pre x (47 :: q) _ rfl]; unfold upB; rw [if_neg (by rintro rfl; simp at hx1)]) (by rw [HS2.out]; have e : x ++ 47 :: q = (x ++ [47]) ++ q := (by simp); rw [e]; exact ext_suf (x ++ [47]) q _ _ (by simp) (by rw [bs_size]; exact Nat.le_refl _)), _, rfl⟩
theorem up_root (w : World) : Calls Tryd.prog 41 #[.string (bs [47])] w fun e w' => e = .returned (.tuple #[.string (bs []), .string (bs [])]) ∧ ∃ n, w' = w.drewN n := by
  have er := eq_true (bs_list [47])
  have HL := Lib.hid (last_slash [] [] (by simp))
  have HA := Lib.hid (Tryd.strings_LastIndexByte (bs ([] ++ 47 :: [])) 47 (by rw [bs_size]; decide) w)
  go_enter Tryd.func41, Tryd.ntmps41
  go_wp2_with fail
  refine HA.out.mono ?_
  rintro e w' ⟨rfl, rfl⟩
  rw [HL.out]
  go_wp2_with fail
  go_ret2
  exact ⟨rfl, 0, rfl⟩

end Go.Proofs.YtbbdokfankgllaaDoor
