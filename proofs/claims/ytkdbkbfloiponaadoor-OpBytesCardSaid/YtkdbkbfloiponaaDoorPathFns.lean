/- Up of package path. No conditions beyond those in each statement. -/
import Derived.Test.YtkdbkbfloiponaaDoorPathPart
import Derived.Test.YtkdbkbfloiponaaDoorShelf
import Derived.WalkSpells
import Derived.WalkLawsBesides
import Derived.Deep.QuietTactic
import Derived.BigQuiet
import Derived.Below
import Derived.Lib.TrimByte
namespace Go.Proofs.YtkdbkbfloiponaaDoor
open Go.RowKit
set_option linter.unusedVariables false
set_option maxRecDepth 100000

/-- A text of these bytes. -/
def bs (l : List UInt8) : ByteArray := ⟨l.toArray⟩
theorem bs_list (l : List UInt8) : (bs l).data.toList = l := by simp [bs]
theorem bs_size (l : List UInt8) : (bs l).size = l.length := by rw [Lib.size_eq, bs_list]
theorem bs_of (s : ByteArray) : bs s.data.toList = s := by cases s; simp [bs]
theorem bs_app (a b : List UInt8) : bs a ++ bs b = bs (a ++ b) := by
  apply ByteArray.ext; simp [bs]
theorem bs_inj {a b : List UInt8} (h : bs a = bs b) : a = b := by rw [← bs_list a, h, bs_list]
theorem eq_true {s : ByteArray} {l : List UInt8} (h : s.data.toList = l) : (s.toList == l) = true := by rw [Lib.toList_data, h]; simp
theorem eq_false {s : ByteArray} {l : List UInt8} (h : s.data.toList ≠ l) : (s.toList == l) = false := by rw [Lib.toList_data]; simpa using h
theorem ret_s {a b : ByteArray} (h : a = b) : Ending.returned (.string a) = .returned (.string b) := by rw [h]
theorem app_bs (s p : ByteArray) : s ++ p = bs (s.data.toList ++ p.data.toList) := by
  apply ByteArray.ext; simp [bs]
theorem bang_list (l : List UInt8) (j : Nat) (hj : j < l.length) : (bs l).data[j]! = l[j] := by
  simp [bs, hj]
theorem last_slash (x q : List UInt8) (hq : (47 : UInt8) ∉ q) : Lib.lastIndexByte (bs (x ++ 47 :: q)) 47 = (x.length : Int) := by
  have hsz : (bs (x ++ 47 :: q)).size = x.length + (q.length + 1) := by rw [bs_size]; simp
  have hl : x.length < (x ++ 47 :: q).length := by simp
  have hat : ((bs (x ++ 47 :: q)).data[x.length]!) = 47 := by rw [bang_list _ _ hl]; simp
  unfold Lib.lastIndexByte
  rcases Lib.lastIdx_spec (bs (x ++ 47 :: q)) 47 (bs (x ++ 47 :: q)).size with ⟨_, h⟩ | ⟨i, hi, h, h1, h2⟩
  · exact absurd (by rw [hat]; rfl) (h x.length (by omega))
  · rw [h]
    rcases Nat.lt_trichotomy i x.length with hlt | heq | hgt
    · exact absurd (by rw [hat]; rfl) (h2 x.length hlt (by omega))
    · rw [heq]
    · exfalso
      rw [hsz] at hi
      have hi' : i < (x ++ 47 :: q).length := by simp; omega
      rw [bang_list _ _ hi'] at h1
      apply hq
      obtain ⟨m, rfl⟩ : ∃ m, i = x.length + (m + 1) := ⟨i - x.length - 1, by omega⟩
      have hm : m < q.length := by omega
      have e : (x ++ 47 :: q)[x.length + (m + 1)] = q[m] := by simp
      rw [e] at h1
      have : q[m] = 47 := UInt8.toNat_inj.1 (by have h47 : (47 : UInt8).toNat = 47 := rfl; omega)
      rw [← this]; exact List.getElem_mem _
/-- What Up answers, of x, a slash and q. -/
def upB (x : List UInt8) : List UInt8 := if x = [] then [47] else x
theorem ext_pre (x q : List UInt8) (n : Nat) (h : n = x.length) : (bs (x ++ q)).extract 0 n = bs x := by
  subst h; unfold bs; rw [Lib.extract_mk]; simp
theorem ext_suf (x q : List UInt8) (a b : Nat) (h : a = x.length) (h2 : (x ++ q).length ≤ b) : (bs (x ++ q)).extract a b = bs q := by
  subst h; unfold bs; rw [Lib.extract_mk]; simp at h2 ⊢
  congr 1
  rw [List.take_of_length_le (by omega)]
theorem ret_ss {a b c d : ByteArray} (h : a = b) (h2 : c = d) : Ending.returned (.tuple #[.string a, .string c]) = .returned (.tuple #[.string b, .string d]) := by rw [h, h2]
end Go.Proofs.YtkdbkbfloiponaaDoor
