/- Plain mathematics of paths: parts, pieces between slashes, numbers behind a path. No conditions beyond those in each statement. The program's test of a part. No conditions beyond those in each statement. Up and Serial of package path. No conditions beyond those in each statement. Numbers behind a path, of ten digits: their order, and back. No conditions beyond those in each statement. A law for a range over a function whose iterator stores into one box of its own (strings.SplitSeq): what the caller owes. No conditions beyond those in each statement. strings.SplitSeq at a slash: the pieces. No conditions beyond those in each statement. Check and Below of package path. No conditions beyond those in each statement. The law's Made. No conditions beyond those in each statement. A slice of ints that came in; a start that fits a row which lists variables. What is below what, among paths made of words. No conditions beyond those in each statement. -/
import Derived.Lib.Bytealg
import Derived.Lib.Strings
import Derived.Lib.LastIndexByte
import Derived.Test.YtblcpihfnpgfiaaGreatDoorChecked
import Derived.WalkKit
import Derived.LoopTactic
import Derived.Outline
import Derived.Lib.Hide
import Derived.Test.YtblcpihfnpgfiaaGreatDoorShelf
import Derived.WalkSpells
import Derived.WalkLawsBesides
import Derived.Deep.QuietTactic
import Derived.BigQuiet
import Derived.Below
import Derived.Lib.TrimByte
import Derived.Lib.Atoi
import Derived.Lib.ItoaNum
import Derived.Lib.LaidTab
import Derived.RangeFuncNested
import Derived.RangeFuncBound
import Derived.RangeFuncCalls
import Derived.RangeFuncLeaves
import Derived.Shelf.Abstract
import Derived.RangeFuncBox
import Derived.OwnWalkIn
import Derived.TacticsInMore
import Derived.LoopNIn
import Derived.LoopIn
import Derived.Maps.AppendAt
import Derived.Sort.QuietIn
import Derived.ProofKit
import Derived.OpenShut
import Derived.ShutString
import Derived.ChangeOld
import Derived.Lay
import Derived.Deep.DeepHandedRow
namespace Go.Proofs.YtblcpihfnpgfiaaGreatDoor
section
set_option linter.unusedSimpArgs false

/-- May this byte stand in a part. -/
def okI (n : Int) : Bool := decide ((97 ≤ n ∧ n ≤ 122) ∨ (48 ≤ n ∧ n ≤ 57) ∨ n = 45)
def okU (c : UInt8) : Bool := okI (c.toNat : Int)
theorem okU_slash : okU 47 = false := by decide
/-- Is this text a part. -/
def partL (l : List UInt8) : Bool := l.all okU && (decide (1 ≤ l.length) && decide (l.length ≤ 20))
/-- The pieces between slashes. -/
def pieces : List UInt8 → List (List UInt8)
  | [] => [[]]
  | c :: l => if c = 47 then [] :: pieces l else match pieces l with
    | [] => [[c]]
    | p :: ps => (c :: p) :: ps
theorem pieces_ne (l : List UInt8) : pieces l ≠ [] := by
  cases l with
  | nil => simp [pieces]
  | cons c l => unfold pieces; split <;> (try split) <;> simp
theorem pieces_cons {c : UInt8} (h : c ≠ 47) (l : List UInt8) : ∃ p ps, pieces l = p :: ps ∧ pieces (c :: l) = (c :: p) :: ps := by
  cases hp : pieces l with
  | nil => exact absurd hp (pieces_ne l)
  | cons p ps => exact ⟨p, ps, rfl, by simp [pieces, h, hp]⟩
theorem pieces_none : ∀ l : List UInt8, (47 : UInt8) ∉ l → pieces l = [l]
  | [], _ => rfl
  | c :: l, h => by
    have hc : c ≠ 47 := fun e => h (by simp [e])
    have := pieces_none l (fun e => h (by simp [e]))
    simp [pieces, hc, this]
theorem pieces_at : ∀ (l : List UInt8) (i : Nat), (47 : UInt8) ∉ l.take i → l[i]? = some 47 → pieces l = l.take i :: pieces (l.drop (i + 1))
  | [], _, _, h => by simp at h
  | c :: l, 0, _, h => by
    obtain rfl : c = 47 := by simpa using h
    simp [pieces]
  | c :: l, i + 1, hn, h => by
    have hc : c ≠ 47 := fun e => hn (by simp [e])
    have := pieces_at l i (fun e => hn (by simp [e])) (by simpa using h)
    simp [pieces, hc, this]
theorem index_none : ∀ l : List UInt8, Lib.indexByte l 47 < 0 → (47 : UInt8) ∉ l ∧ Lib.indexByte l 47 = -1
  | [], _ => by simp [Lib.indexByte]
  | c :: l, h => by
    unfold Lib.indexByte at h ⊢
    by_cases hc : c = 47
    · subst hc; simp at h
    · have hb : (c == 47) = false := by simpa using hc
      simp only [hb] at h ⊢
      by_cases h2 : Lib.indexByte l 47 < 0
      · have := index_none l h2
        simp [this.2, this.1, Ne.symm hc]
      · have h3 : (Lib.indexByte l 47 == -1) = false := by simp; omega
        simp [h3] at h
        omega
theorem index_some : ∀ l : List UInt8, 0 ≤ Lib.indexByte l 47 → ∃ i : Nat, Lib.indexByte l 47 = i ∧ i < l.length ∧ (47 : UInt8) ∉ l.take i ∧ l[i]? = some 47
  | [], h => by simp [Lib.indexByte] at h
  | c :: l, h => by
    unfold Lib.indexByte at h ⊢
    by_cases hc : c = 47
    · subst hc; exact ⟨0, by simp⟩
    · have hb : (c == 47) = false := by simpa using hc
      simp only [hb] at h ⊢
      by_cases h2 : Lib.indexByte l 47 < 0
      · have := index_none l h2
        simp [this.2] at h
      · have h3 : (Lib.indexByte l 47 == -1) = false := by simp; omega
        obtain ⟨i, e, hi, hn, hs⟩ := index_some l (by omega)
        exact ⟨i + 1, by simp [e], by simp; omega, by simp [Ne.symm hc, hn], by simpa using hs⟩
/-- What Check answers, as a Bool. -/
def checkL (l : List UInt8) : Bool := decide (l = [47]) || (decide (l.head? = some 47) && (decide (l.length ≤ 60) && (pieces (l.drop 1)).all partL))
/-- The law's loop: the text gathered so far, and the rest. -/
def run8 : List UInt8 → List UInt8 → Bool
  | p, [] => partL p
  | p, c :: l => if c = 47 then partL p && run8 [] l else run8 (p ++ [c]) l
theorem run8_pieces : ∀ (l p : List UInt8) (q : List UInt8) (qs : List (List UInt8)), pieces l = q :: qs → run8 p l = (partL (p ++ q) && qs.all partL)
  | [], p, q, qs, h => by
    simp [pieces] at h
    obtain ⟨rfl, rfl⟩ := h
    simp [run8]
  | c :: l, p, q, qs, h => by
    by_cases hc : c = 47
    · subst hc
      simp [pieces] at h
      obtain ⟨rfl, rfl⟩ := h
      cases hp : pieces l with
      | nil => exact absurd hp (pieces_ne l)
      | cons r rs => simp [run8, run8_pieces l [] r rs hp]
    · obtain ⟨r, rs, h1, h2⟩ := pieces_cons hc l
      rw [h2] at h
      simp at h
      obtain ⟨rfl, rfl⟩ := h
      simp [run8, hc, run8_pieces l (p ++ [c]) r rs h1]
theorem run8_all (l : List UInt8) : run8 [] l = (pieces l).all partL := by
  cases hp : pieces l with
  | nil => exact absurd hp (pieces_ne l)
  | cons q qs => rw [run8_pieces l [] q qs hp]; simp

/-- The words of which Made makes paths. -/
def wordI (n : Int) : List UInt8 := if n % 5 = 0 then [97] else if n % 5 = 1 then [98] else if n % 5 = 2 then [99] else if n % 5 = 3 then [110, 49] else [120, 45, 121]
theorem partL_word (n : Int) : partL (wordI n) = true := by
  unfold wordI; split <;> (try split) <;> (try split) <;> (try split) <;> decide
theorem word_noslash (n : Int) : (47 : UInt8) ∉ wordI n := by
  unfold wordI; split <;> (try split) <;> (try split) <;> (try split) <;> decide
theorem word_len (n : Int) : 1 ≤ (wordI n).length ∧ (wordI n).length ≤ 3 := by
  unfold wordI; split <;> (try split) <;> (try split) <;> (try split) <;> decide
def bodyL (ws : List (List UInt8)) : List UInt8 := ws.flatMap (fun p => 47 :: p)
def madeL (ws : List (List UInt8)) : List UInt8 := if ws = [] then [47] else bodyL ws
end
section
open Go.RowKit
set_option linter.unusedVariables false
set_option linter.unusedSimpArgs false
set_option maxRecDepth 100000

theorem ret_b {a b : Bool} (h : a = b) : Ending.returned (.bool a) = .returned (.bool b) := by rw [h]
set_option maxHeartbeats 1000000 in
theorem partByte_any (n : Int) (w : World) : Calls Tryz.prog 69 #[.int .u8 n] w fun e w' => e = .returned (.bool (okI n)) ∧ w' = w := by
  go_enter Tryz.func69, Tryz.ntmps69
  go_wp2
  all_goals (go_ret; exact ⟨ret_b (by rw [Bool.eq_iff_iff]; unfold okI; simp; try omega), rfl⟩)
theorem take_snoc8 (s : ByteArray) (k : Nat) (h : k < s.size) : s.data.toList.take (k + 1) = s.data.toList.take k ++ [s[k]] := by
  rw [List.take_succ_eq_append_getElem (by simpa using h)]; rfl
theorem all_of_not {s : ByteArray} {k : Nat} (h : k < s.size) (hn : okI (s[k].toNat : Int) = false) : s.data.toList.all okU = false := by
  rw [List.all_eq_false]
  refine ⟨s[k], ?_, by unfold okU; simp [hn]⟩
  have : s[k] = s.data.toList[k]'(by simpa using h) := rfl
  rw [this]; exact List.getElem_mem _
theorem partL_short {s : ByteArray} (h : s.size < 1) : partL s.data.toList = false := by
  have := Lib.size_eq s
  unfold partL; simp; omega
theorem partL_long {s : ByteArray} (h : 20 < s.size) : partL s.data.toList = false := by
  have := Lib.size_eq s
  unfold partL; simp; omega
theorem partL_mid {s : ByteArray} (h1 : 1 ≤ s.size) (h2 : s.size ≤ 20) : partL s.data.toList = s.data.toList.all okU := by
  have := Lib.size_eq s
  unfold partL; simp; omega
set_option maxHeartbeats 4000000 in
theorem part_any (s : ByteArray) (w : World) : Calls Tryz.prog 54 #[.string s] w fun e w' => e = .returned (.bool (partL s.data.toList)) ∧ w' = w := by
  by_cases h1 : (s.size : Int) < 1
  · have e1 : decide ((s.size : Int) < 1) = true := by simpa using h1
    go_enter Tryz.func54, Tryz.ntmps54
    go_wp2
    go_ret
    exact ⟨ret_b (partL_short (by omega)).symm, rfl⟩
  · have e1 : decide ((s.size : Int) < 1) = false := by simpa using h1
    by_cases h2 : (20 : Int) < (s.size : Int)
    · have e2 : decide ((20 : Int) < (s.size : Int)) = true := by simpa using h2
      go_enter Tryz.func54, Tryz.ntmps54
      go_wp2
      go_ret
      exact ⟨ret_b (partL_long (by omega)).symm, rfl⟩
    · have e2 : decide ((20 : Int) < (s.size : Int)) = false := by simpa using h2
      have HM := Lib.hid (partL_mid (s := s) (by omega) (by omega))
      go_enter Tryz.func54, Tryz.ntmps54
      go_wp2
      go_loop [14] (fun i => ∃ k : Nat, k ≤ s.size ∧ i = .int .i64 k ∧ Hid ((s.data.toList.take k).all okU = true)) (fun i => s.size - (intOf i).toNat)
      case atStart => exact ⟨0, Nat.zero_le _, rfl, rfl⟩
      case round =>
        obtain ⟨k, hk, rfl, hall⟩ := hrel
        by_cases hlt : k < s.size
        · have HS := Lib.hid (take_snoc8 s k hlt)
          cases ho : okI (s[k].toNat : Int)
          · have hno := Lib.hid (all_of_not hlt ho)
            go_wp2_with (go_at_call 69; refine (partByte_any _ _).mono ?_; rintro e w' ⟨rfl, rfl⟩)
            go_ret
            exact ⟨ret_b (by rw [HM.out, hno.out]), rfl⟩
          · go_wp2_with (go_at_call 69; refine (partByte_any _ _).mono ?_; rintro e w' ⟨rfl, rfl⟩)
            go_round
            case rel => exact ⟨k + 1, by omega, by go_num, by show Hid _; exact Lib.hid (by rw [HS.out, List.all_append, hall.out]; simp [okU, ho])⟩
            case measure => simp [intOf]; omega
        · go_wp2
          go_ret
          exact ⟨ret_b (by have := hall.out; rw [List.take_of_length_le (by rw [← Lib.size_eq]; omega)] at this; rw [HM.out, this]), rfl⟩
end
section
open Go.RowKit
set_option linter.unusedVariables false
set_option linter.unusedSimpArgs false
set_option maxRecDepth 100000

/-- A text of these bytes. -/
def bs (l : List UInt8) : ByteArray := ⟨l.toArray⟩
theorem bs_list (l : List UInt8) : (bs l).data.toList = l := by simp [bs]
theorem bs_size (l : List UInt8) : (bs l).size = l.length := by rw [Lib.size_eq, bs_list]
theorem bs_of (s : ByteArray) : bs s.data.toList = s := by cases s; simp [bs]
theorem bs_app (a b : List UInt8) : bs a ++ bs b = bs (a ++ b) := by
  apply ByteArray.ext; simp [bs]
theorem bs_inj {a b : List UInt8} (h : bs a = bs b) : a = b := by rw [← bs_list a, h, bs_list]
theorem eq_true {s : ByteArray} {l : List UInt8} (h : s.data.toList = l) : (s.toList == l) = true := by rw [Lib.toList_data, h]; simp
theorem eq_false {s : ByteArray} {l : List UInt8} (h : s.data.toList ≠ l) : (s.toList == l) = false := by rw [Lib.toList_data]; simpa using h
theorem ret_s {a b : ByteArray} (h : a = b) : Ending.returned (.string a) = .returned (.string b) := by rw [h]
theorem app_bs (s p : ByteArray) : s ++ p = bs (s.data.toList ++ p.data.toList) := by
  apply ByteArray.ext; simp [bs]
theorem bang_list (l : List UInt8) (j : Nat) (hj : j < l.length) : (bs l).data[j]! = l[j] := by
  simp [bs, hj]
theorem last_slash (x q : List UInt8) (hq : (47 : UInt8) ∉ q) : Lib.lastIndexByte (bs (x ++ 47 :: q)) 47 = (x.length : Int) := by
  have hsz : (bs (x ++ 47 :: q)).size = x.length + (q.length + 1) := by rw [bs_size]; simp
  have hl : x.length < (x ++ 47 :: q).length := by simp
  have hat : ((bs (x ++ 47 :: q)).data[x.length]!) = 47 := by rw [bang_list _ _ hl]; simp
  unfold Lib.lastIndexByte
  rcases Lib.lastIdx_spec (bs (x ++ 47 :: q)) 47 (bs (x ++ 47 :: q)).size with ⟨_, h⟩ | ⟨i, hi, h, h1, h2⟩
  · exact absurd (by rw [hat]; rfl) (h x.length (by omega))
  · rw [h]
    rcases Nat.lt_trichotomy i x.length with hlt | heq | hgt
    · exact absurd (by rw [hat]; rfl) (h2 x.length hlt (by omega))
    · rw [heq]
    · exfalso
      rw [hsz] at hi
      have hi' : i < (x ++ 47 :: q).length := by simp; omega
      rw [bang_list _ _ hi'] at h1
      apply hq
      obtain ⟨m, rfl⟩ : ∃ m, i = x.length + (m + 1) := ⟨i - x.length - 1, by omega⟩
      have hm : m < q.length := by omega
      have e : (x ++ 47 :: q)[x.length + (m + 1)] = q[m] := by simp
      rw [e] at h1
      have : q[m] = 47 := UInt8.toNat_inj.1 (by have h47 : (47 : UInt8).toNat = 47 := rfl; omega)
      rw [← this]; exact List.getElem_mem _
/-- What Up answers, of x, a slash and q. -/
def upB (x : List UInt8) : List UInt8 := if x = [] then [47] else x
theorem ext_pre (x q : List UInt8) (n : Nat) (h : n = x.length) : (bs (x ++ q)).extract 0 n = bs x := by
  subst h; unfold bs; rw [Lib.extract_mk]; simp
theorem ext_suf (x q : List UInt8) (a b : Nat) (h : a = x.length) (h2 : (x ++ q).length ≤ b) : (bs (x ++ q)).extract a b = bs q := by
  subst h; unfold bs; rw [Lib.extract_mk]; simp at h2 ⊢
  congr 1
  rw [List.take_of_length_le (by omega)]
theorem ret_ss {a b c d : ByteArray} (h : a = b) (h2 : c = d) : Ending.returned (.tuple #[.string a, .string c]) = .returned (.tuple #[.string b, .string d]) := by rw [h, h2]
set_option maxHeartbeats 2000000 in
theorem up_any (x q : List UInt8) (w : World) (hq : (47 : UInt8) ∉ q) (hx : x.length ≤ 1000000) (hql : q.length ≤ 1000000) (hn : x = [] → q ≠ []) : Calls Tryz.prog 28 #[.string (bs (x ++ 47 :: q))] w fun e w' => e = .returned (.tuple #[.string (bs (upB x)), .string (bs q)]) ∧ ∃ n, w' = w.drewN n := by
  have hsz : (bs (x ++ 47 :: q)).size = x.length + (q.length + 1) := by rw [bs_size]; simp
  have hr : (bs (x ++ 47 :: q)).data.toList ≠ [47] := by
    rw [bs_list]; intro e
    cases x with
    | nil => simp at e; exact hn rfl e
    | cons a l => simp at e
  have er := eq_false hr
  have HL := Lib.hid (last_slash x q hq)
  have HA := Lib.hid (Tryz.strings_LastIndexByte (bs (x ++ 47 :: q)) 47 (by omega) w)
  have HS := Lib.hid hsz
  obtain ⟨s, hs⟩ : ∃ s, s = bs (x ++ 47 :: q) := ⟨_, rfl⟩
  rw [← hs] at er HL HA HS ⊢
  have HS2 := Lib.hid hs
  have hb1 : s.size ≤ 2000001 := by rw [hs]; omega
  have hb2 : x.length + 1 ≤ s.size := by rw [hs]; omega
  have hb3 : (x.length : Int) + 1 ≤ (s.size : Int) := by omega
  clear hs hsz hr hn
  go_enter Tryz.func28, Tryz.ntmps28
  go_wp2_with fail
  refine HA.out.mono ?_
  rintro e w' ⟨rfl, rfl⟩
  rw [HL.out]
  by_cases h0 : x = []
  · have HX := Lib.hid h0
    have hx0 : x.length = 0 := by simp [h0]
    rw [hx0]
    have hm : max (0 : Int) 1 = 1 := by decide
    have hb4 : (1 : Int) ≤ (s.size : Int) := by omega
    have hb5 : 1 ≤ s.size := by omega
    clear h0 hx0
    go_wp2_with fail
    go_quiet (fail)
    go_wp2_with fail
    go_ret2
    have h0 := HX.out
    subst h0
    exact ⟨ret_ss (by rw [HS2.out]; exact ext_pre [47] q 1 rfl) (by rw [HS2.out]; exact ext_suf [47] q 1 _ rfl (by rw [bs_size]; simp)), _, rfl⟩
  · have hx1 : 1 ≤ x.length := by cases x with
      | nil => exact absurd rfl h0
      | cons a l => simp
    have hx2 : (1 : Int) ≤ (x.length : Int) := by omega
    have hm : max (x.length : Int) 1 = (x.length : Int) := by omega
    have e2 : IntKind.i64.wrap ((x.length : Int) + 1) = ((x.length + 1 : Nat) : Int) := by rw [IntWalk.i64_in _ (by omega)]; push_cast; rfl
    have d1 : decide ((x.length : Int) < 0) = false := by simp
    clear h0
    go_wp2_with fail
    go_quiet (fail)
    go_wp2_with fail
    go_ret2
    refine ⟨ret_ss (by rw [HS2.out, ext_pre x (47 :: q) _ rfl]; unfold upB; rw [if_neg (by rintro rfl; simp at hx1)]) (by rw [HS2.out]; have e : x ++ 47 :: q = (x ++ [47]) ++ q := (by simp); rw [e]; exact ext_suf (x ++ [47]) q _ _ (by simp) (by rw [bs_size]; exact Nat.le_refl _)), _, rfl⟩
theorem up_root (w : World) : Calls Tryz.prog 28 #[.string (bs [47])] w fun e w' => e = .returned (.tuple #[.string (bs []), .string (bs [])]) ∧ ∃ n, w' = w.drewN n := by
  have er := eq_true (bs_list [47])
  have HL := Lib.hid (last_slash [] [] (by simp))
  have HA := Lib.hid (Tryz.strings_LastIndexByte (bs ([] ++ 47 :: [])) 47 (by rw [bs_size]; decide) w)
  go_enter Tryz.func28, Tryz.ntmps28
  go_wp2_with fail
  refine HA.out.mono ?_
  rintro e w' ⟨rfl, rfl⟩
  rw [HL.out]
  go_wp2_with fail
  go_ret2
  exact ⟨rfl, 0, rfl⟩

/-- What Serial answers of a number of not more than ten digits. -/
def serialL (s : List UInt8) (n : Nat) : List UInt8 := s ++ (Lib.repeatL [48] (10 - (Lib.decDigits n).length) ++ Lib.decDigits n)
set_option maxHeartbeats 2000000 in
theorem serial_small (s : ByteArray) (n : Nat) (w : World) (hs : s.size ≤ 1000000) (hn : n < 100) : Calls Tryz.prog 56 #[.string s, .int .i64 n] w fun e w' => e = .returned (.string (bs (serialL s.data.toList n))) ∧ Below w.heap.size w w' := by
  have HA := Lib.hid (Tryz.strconv_Itoa_small n hn w)
  have hm : max (n : Int) 0 = (n : Int) := by omega
  obtain ⟨L, hL⟩ : ∃ L, L = (Lib.decDigits n).length := ⟨_, rfl⟩
  have HL := Lib.hid hL
  have hl10 : L ≤ 10 := by
    rw [hL, Lib.decDigits]; split
    · simp
    · rw [Lib.decDigits, dif_pos (by omega)]; simp
  have hsz : (bs (Lib.decDigits n)).size = L := by rw [bs_size, hL]
  have hm2 : max (10 - (L : Int)) 0 = ((10 - L : Nat) : Int) := by omega
  have HR := Lib.hid (fun W : World => Tryz.strings_Repeat (bs [48]) (10 - L) W (by omega) (by rw [bs_size]; simp; omega))
  have hrl : (Lib.repeatL [48] (10 - L)).length ≤ 10 := by rw [Lib.repeatL_length]; simp
  clear hL
  unfold bs at hsz HR
  go_enter Tryz.func56, Tryz.ntmps56
  go_wp2_with fail
  refine HA.out.mono ?_
  rintro e w' ⟨rfl, rfl⟩
  go_wp2_with fail
  refine (HR.out _).mono ?_
  rintro e w2 ⟨rfl, hb⟩
  go_wp2_with fail
  go_ret
  refine ⟨ret_s ?_, hb⟩
  unfold serialL
  rw [app_bs, app_bs, bs_list, ← HL.out]
  simp
end
section
open Go.RowKit
set_option linter.unusedVariables false
set_option linter.unusedSimpArgs false
set_option maxRecDepth 100000

/-- The last k digits of n. -/
def dig : Nat → Nat → List UInt8
  | 0, _ => []
  | k + 1, n => dig k (n / 10) ++ [UInt8.ofNat (48 + n % 10)]
theorem dig_len : ∀ k n, (dig k n).length = k
  | 0, _ => rfl
  | k + 1, n => by simp [dig, dig_len k]
theorem dig_zero : ∀ k, dig k 0 = List.replicate k 48
  | 0 => rfl
  | k + 1 => by
    simp [dig, dig_zero k, List.replicate_succ']
theorem repeat_one (k : Nat) : Lib.repeatL [48] k = List.replicate k 48 := by
  induction k with
  | zero => rfl
  | succ k ih => rw [Lib.repeatL, ih]; rfl
theorem pad_dig : ∀ k n, 1 ≤ k → n < 10 ^ k → (Lib.decDigits n).length ≤ k ∧ Lib.repeatL [48] (k - (Lib.decDigits n).length) ++ Lib.decDigits n = dig k n
  | 0, _, h, _ => by omega
  | k + 1, n, _, hn => by
    by_cases h10 : n < 10
    · have e : Lib.decDigits n = [UInt8.ofNat (48 + n)] := by rw [Lib.decDigits, dif_pos h10]
      have e2 : n / 10 = 0 := by omega
      have e3 : n % 10 = n := by omega
      rw [e]
      refine ⟨by simp, ?_⟩
      simp only [dig, e2, e3, dig_zero, repeat_one]
      simp
    · have hk : 1 ≤ k := by
        rcases Nat.eq_zero_or_pos k with rfl | h
        · simp at hn; omega
        · exact h
      have e : Lib.decDigits n = Lib.decDigits (n / 10) ++ [UInt8.ofNat (48 + n % 10)] := by rw [Lib.decDigits, dif_neg h10]
      have hq : n / 10 < 10 ^ k := Nat.div_lt_of_lt_mul (by rw [Nat.pow_succ, Nat.mul_comm] at hn; exact hn)
      obtain ⟨h1, h2⟩ := pad_dig k (n / 10) hk hq
      rw [e]
      refine ⟨by simp; exact h1, ?_⟩
      simp only [dig, ← h2]
      simp
theorem byte_less (a b : Nat) (ha : a < 10) (hb : b < 10) : decide (UInt8.ofNat (48 + a) < UInt8.ofNat (48 + b)) = decide (a < b) := by
  match a, ha, b, hb with
  | a, ha, b, hb =>
    rw [Bool.eq_iff_iff]
    simp [UInt8.lt_iff_toNat_lt, Nat.mod_eq_of_lt (show 48 + a < 256 by omega), Nat.mod_eq_of_lt (show 48 + b < 256 by omega)]
theorem byte_same (a b : Nat) (ha : a < 10) (hb : b < 10) : UInt8.ofNat (48 + a) = UInt8.ofNat (48 + b) ↔ a = b := by
  constructor
  · intro h
    have := congrArg UInt8.toNat h
    simp [Nat.mod_eq_of_lt (show 48 + a < 256 by omega), Nat.mod_eq_of_lt (show 48 + b < 256 by omega)] at this
    exact this
  · rintro rfl; rfl
theorem dig_inj : ∀ k n m, n < 10 ^ k → m < 10 ^ k → dig k n = dig k m → n = m
  | 0, n, m, hn, hm, _ => by simp at hn hm; omega
  | k + 1, n, m, hn, hm, h => by
    have := List.append_inj' h rfl
    have h1 : UInt8.ofNat (48 + n % 10) = UInt8.ofNat (48 + m % 10) := by simpa using this.2
    rw [byte_same _ _ (by omega) (by omega)] at h1
    have h2 := dig_inj k (n / 10) (m / 10) (Nat.div_lt_of_lt_mul (by rw [Nat.pow_succ, Nat.mul_comm] at hn; exact hn)) (Nat.div_lt_of_lt_mul (by rw [Nat.pow_succ, Nat.mul_comm] at hm; exact hm)) this.1
    omega
theorem less_snoc : ∀ (a b : List UInt8) (x y : UInt8), a.length = b.length → Op.bytesLess (a ++ [x]) (b ++ [y]) = (Op.bytesLess a b || (decide (a = b) && decide (x < y)))
  | [], [], x, y, _ => by simp [Op.bytesLess]
  | [], b :: m, _, _, h => by simp at h
  | a :: l, [], _, _, h => by simp at h
  | a :: l, b :: m, x, y, h => by
    have ih := less_snoc l m x y (by simpa using h)
    simp only [List.cons_append, Op.bytesLess, ih]
    by_cases hab : a = b
    · subst hab; simp
    · have hb : (a == b) = false := by simpa using hab
      simp [hab, hb]
theorem less_front : ∀ (s a b : List UInt8), Op.bytesLess (s ++ a) (s ++ b) = Op.bytesLess a b
  | [], _, _ => rfl
  | c :: s, a, b => by simp [Op.bytesLess, less_front s a b]
theorem less_dig : ∀ k n m, n < 10 ^ k → m < 10 ^ k → Op.bytesLess (dig k n) (dig k m) = decide (n < m)
  | 0, n, m, hn, hm => by simp at hn hm; subst hn hm; simp [dig, Op.bytesLess]
  | k + 1, n, m, hn, hm => by
    have hn' : n / 10 < 10 ^ k := Nat.div_lt_of_lt_mul (by rw [Nat.pow_succ, Nat.mul_comm] at hn; exact hn)
    have hm' : m / 10 < 10 ^ k := Nat.div_lt_of_lt_mul (by rw [Nat.pow_succ, Nat.mul_comm] at hm; exact hm)
    simp only [dig]
    rw [less_snoc _ _ _ _ (by rw [dig_len, dig_len]), less_dig k _ _ hn' hm', byte_less _ _ (by omega) (by omega), Bool.eq_iff_iff]
    simp only [Bool.or_eq_true, Bool.and_eq_true, decide_eq_true_eq]
    constructor
    · rintro (h | ⟨h1, h2⟩)
      · omega
      · have := dig_inj k _ _ hn' hm' h1; omega
    · intro h
      by_cases hq : n / 10 = m / 10
      · exact .inr ⟨by rw [hq], by omega⟩
      · exact .inl (by omega)
theorem decFrom_app : ∀ (l r : List UInt8) (acc : Nat), Lib.decFrom acc (l ++ r) = (Lib.decFrom acc l).bind (fun a => Lib.decFrom a r)
  | [], _, _ => rfl
  | b :: l, r, acc => by
    simp only [List.cons_append, Lib.decFrom]
    cases Lib.digitVal b with
    | none => rfl
    | some d => exact decFrom_app l r _
theorem digitVal_of (d : Nat) (h : d < 10) : Lib.digitVal (UInt8.ofNat (48 + d)) = some d := by
  unfold Lib.digitVal
  simp [Nat.mod_eq_of_lt (show 48 + d < 256 by omega)]; omega
theorem decFrom_dig : ∀ k n, n < 10 ^ k → Lib.decFrom 0 (dig k n) = some n
  | 0, n, h => by simp at h; subst h; rfl
  | k + 1, n, h => by
    have hn' : n / 10 < 10 ^ k := Nat.div_lt_of_lt_mul (by rw [Nat.pow_succ, Nat.mul_comm] at h; exact h)
    simp only [dig]
    rw [decFrom_app, decFrom_dig k _ hn']
    show (match Lib.digitVal (UInt8.ofNat (48 + n % 10)) with
      | some d => Lib.decFrom (n / 10 * 10 + d) []
      | none => none) = some n
    rw [digitVal_of _ (show n % 10 < 10 by omega)]
    show some (n / 10 * 10 + n % 10) = some n
    congr 1; omega
theorem dig_head : ∀ k n, ∃ d, d < 10 ∧ ∃ r, dig (k + 1) n = UInt8.ofNat (48 + d) :: r
  | 0, n => ⟨n % 10, by omega, [], rfl⟩
  | k + 1, n => by
    obtain ⟨d, hd, r, hr⟩ := dig_head k (n / 10)
    exact ⟨d, hd, r ++ [UInt8.ofNat (48 + n % 10)], by rw [dig, hr]; rfl⟩
theorem atoi_dig (k n : Nat) (h : n < 10 ^ (k + 1)) : Lib.atoi (dig (k + 1) n) = some (n : Int) := by
  have hd := decFrom_dig (k + 1) n h
  obtain ⟨d, hd10, r, hr⟩ := dig_head k n
  rw [hr] at hd ⊢
  have h1 : (UInt8.ofNat (48 + d) == 45) = false := by
    rw [beq_eq_false_iff_ne]; intro e
    have := congrArg UInt8.toNat e
    rw [UInt8.toNat_ofNat', Nat.mod_eq_of_lt (show 48 + d < 256 by omega)] at this
    have h45 : (45 : UInt8).toNat = 45 := rfl
    omega
  have h2 : (UInt8.ofNat (48 + d) == 43) = false := by
    rw [beq_eq_false_iff_ne]; intro e
    have := congrArg UInt8.toNat e
    rw [UInt8.toNat_ofNat', Nat.mod_eq_of_lt (show 48 + d < 256 by omega)] at this
    have h43 : (43 : UInt8).toNat = 43 := rfl
    omega
  generalize UInt8.ofNat (48 + d) = b at hd h1 h2
  unfold Lib.atoi Lib.decNat
  show (if (b == 45) = true then Option.map (fun (m : Nat) => -(m : Int)) (if r.isEmpty = true then none else Lib.decFrom 0 r) else if (b == 43) = true then Option.map (fun (m : Nat) => (m : Int)) (if r.isEmpty = true then none else Lib.decFrom 0 r) else Option.map (fun (m : Nat) => (m : Int)) (if (b :: r).isEmpty = true then none else Lib.decFrom 0 (b :: r))) = some (n : Int)
  rw [h1, h2, if_neg (by decide), if_neg (by decide), if_neg (by simp), hd]
  rfl

def P10 (w : World) : Prop := Lib.TabIs Tryz.prog w "internal/strconv.uint64pow10" .u64 Lib.pow10Tab
theorem gP10 : Tryz.prog.globalNamed "internal/strconv.uint64pow10" = some 3 := by kernel_rfl
theorem P10.below {w w' : World} (h : P10 w) (hb : Below w.heap.size w w') : P10 w' := by
  unfold P10 Lib.TabIs World.var? at h ⊢
  rw [gP10] at h ⊢
  simp only [Option.bind_some] at h ⊢
  have hlt : 3 < w.heap.size := by
    rcases Nat.lt_or_ge 3 w.heap.size with h' | h'
    · exact h'
    · rw [Array.getElem?_eq_none h'] at h; cases h
  rw [hb.block _ hlt]
  exact h
theorem below_grow (w : World) (k : Nat) (os : Array Obj) : Below w.heap.size w (Go.Sort.grow (w.drewN k) os) := by
  refine ⟨rfl, rfl, rfl, ?_, fun j hj => ?_⟩
  · show w.heap.size ≤ (w.heap ++ os).size
    rw [Array.size_append]; omega
  · show (w.heap ++ os)[j]? = w.heap[j]?
    rw [Array.getElem?_append_left hj]
set_option maxHeartbeats 2000000 in
/-- Serial at any number of not more than ten digits: below 0 it is 0. -/
theorem serial_any (s : ByteArray) (z : Int) (n : Nat) (w : World) (hs : s.size ≤ 1000000) (hz : max z 0 = (n : Int)) (hn : n < 10 ^ 10) (hT : P10 w) : Calls Tryz.prog 56 #[.string s, .int .i64 z] w fun e w' => e = .returned (.string (bs (s.data.toList ++ dig 10 n))) ∧ Below w.heap.size w w' := by
  have hn2 : n < 10000000000 := hn
  have hpd := pad_dig 10 n (by omega) hn
  have hit : Lib.itoa (n : Int) = Lib.decDigits n := by unfold Lib.itoa; rw [if_neg (by omega)]; rfl
  have HA := Lib.hid (fun W : World => fun h : P10 W => Tryz.strconv_Itoa (n : Int) (by omega) (by omega) W h)
  rw [hit] at HA
  obtain ⟨L, hL⟩ : ∃ L, L = (Lib.decDigits n).length := ⟨_, rfl⟩
  rw [← hL] at hpd
  have hl10 := hpd.1
  have HPD := Lib.hid hpd.2
  have hsz : (bs (Lib.decDigits n)).size = L := by rw [bs_size, hL]
  have hm2 : max (10 - (L : Int)) 0 = ((10 - L : Nat) : Int) := by omega
  have HR := Lib.hid (fun W : World => Tryz.strings_Repeat (bs [48]) (10 - L) W (by omega) (by rw [bs_size]; simp; omega))
  have hrl : (Lib.repeatL [48] (10 - L)).length ≤ 10 := by rw [Lib.repeatL_length]; simp
  have HT := Lib.hid hT
  clear hL hit hpd hT
  unfold bs at hsz HR
  go_enter Tryz.func56, Tryz.ntmps56
  go_wp2_with fail
  refine (HA.out _ HT.out).mono ?_
  rintro e w2 ⟨rfl, k, os, hw2⟩
  have b2 : Below w.heap.size w w2 := by rw [hw2]; exact below_grow w k os
  clear hw2
  go_wp2_with fail
  refine (HR.out _).mono ?_
  rintro e w3 ⟨rfl, hb⟩
  go_wp2_with fail
  go_ret
  refine ⟨ret_s ?_, b2.trans (hb.mono b2.size)⟩
  rw [← HPD.out, app_bs, app_bs, bs_list]
  simp
end
section
open Go Go.RowKit Go.Shelf
set_option linter.unusedVariables false

/-- The iterator's word: it turns its own box Bs, and makes blocks; else it keeps all. -/
def SeqBox {α : Type} (F : Fence) (n : Nat) (P : Program) (g : Nat) (lb : Array Value) (encs : α → Array Value) (Kp : World → World → Prop) (S Sp : List α → Prop) (Bs : Nat) (w : World) : Prop :=
  ∀ (l : Nat) (J Jx : List α → World → Prop) (W : World), Below w.heap.size w W →
    (∀ s A B, J s A → A.grownBy B (some Bs) → J s B) → (∀ s A B, Jx s A → A.grownBy B (some Bs) → Jx s B) →
    (∀ pre x W1, J pre W1 → YieldAt F (n - 1) P l (encs x) W1 fun e W' =>
      (e = .returned (.bool true) ∧ J (pre ++ [x]) W' ∧ Kp W1 W') ∨ (e = .returned (.bool false) ∧ Jx (pre ++ [x]) W')) →
    J [] W →
    CallsIn F n P g (#[.func (.yield l) #[] #[]] ++ lb) W fun e W' => (∃ v, e = .returned v) ∧ ((∃ xs, S xs ∧ J xs W') ∨ (∃ pre, Sp pre ∧ Jx pre W'))
/-- How a round's body may end. -/
def boxPost (B : Nat) (Kp : World → World → Prop) (I Ix : World → Prop) (W : World) : Exit → Act → World → Prop
  | .normal, _, W' => KeepsFrom B W W' ∧ Kp W W' ∧ I W'
  | .ret, _, W' => KeepsFrom B W W' ∧ Ix W'
  | _, _, _ => False
/-- The loop's record. -/
def boxRec (fn : FuncId) (tmps : Array Value) (ps : Array Tmp) (assign body : Code) (d : Nat) (st : LoopState) (pe : Option Code) : Loop := { state := st, pending := pe, fn := fn, tmps := tmps, params := ps, assign := assign, body := body, defers := d }
/-- Two blocks of the loop's book-keeping: the record and the list of deferred calls. -/
def Books (h : Nat) (r : Loop) (W : World) : Prop := W.heap[h + 1]? = some (.loop r) ∧ W.heap[h]? = some (.deferred (some []))
theorem Books.grown {h Bs : Nat} {r : Loop} {A B : World} (hb : Books h r A) (hB : Bs < h) (hg : A.grownBy B (some Bs)) : Books h r B :=
  have l1 := (Array.getElem?_eq_some_iff.1 hb.1).1
  ⟨(hg.block _ l1 (by simp; omega)).trans hb.1, (hg.block _ (by omega) (by simp; omega)).trans hb.2⟩
theorem Books.put {h : Nat} {r : Loop} (r' : Loop) {A : World} (hb : Books h r A) : Books h r' (A.putObj (h + 1) (.loop r')) :=
  ⟨World.putObj_heap_same (Array.getElem?_eq_some_iff.1 hb.1).1, (World.putObj_heap_other (by omega)).trans hb.2⟩
theorem Books.keep {h : Nat} {r : Loop} {A B : World} (hb : Books h r A) (k : KeepsFrom h A B) : Books h r B :=
  ⟨k.same _ _ (by omega) hb.1 rfl, k.same _ _ (Nat.le_refl _) hb.2 rfl⟩
variable {F : Fence} {n : Nat} {P : Program}
theorem wpIn_range_box {α : Type} {g : Operand} {ps : Array Tmp} {assign body : Code} {Q : Exit → Act → World → Prop} {a : Act} {w : World}
    (hro : F.round = none) (h1 : 1 ≤ n) {gf : Nat} {lb : Array Value} (hg : a.eval g = .func (.func gf) #[] lb) (hFg : F.fn gf) (eg : ∀ args w, (callFunc gf args).run P w = .ok (.enter gf args) w)
    {encs : α → Array Value} {Kp : World → World → Prop} {S Sp : List α → Prop} {Bs : Nat} (hseq : SeqBox F (n - 1) P gf lb encs Kp S Sp Bs w) (hBs : Bs < w.heap.size)
    (hKt : ∀ {A B C : World}, Kp A B → Kp B C → Kp A C) (hKb : ∀ (W : World) (l : Nat) (o o' : Obj), w.heap.size ≤ l → W.heap[l]? = some o → o.isCells = false → o.isWalk = false → Kp W (W.putObj l o')) (hps : ∀ x, (encs x).size = ps.size)
    (I Ix : List α → World → Prop)
    (hI : ∀ s A B row, I s A → A.grownBy B row → (∀ r, row = some r → r = Bs ∨ w.heap.size ≤ r) → I s B)
    (hIx : ∀ s A B row, Ix s A → A.grownBy B row → (∀ r, row = some r → r = Bs ∨ w.heap.size ≤ r) → Ix s B) (h0 : I [] w) (a₁ : α → Act)
    (hassign : ∀ (l : Nat) (x : α) (W : World) (K : Act → World → Prop), K (a₁ x) W →
      assign.wpIn (F.inRound l) (n - 1 - 1) P (Exit.then K (fun _ _ _ => False)) { tmps := (ps.zip (encs x)).foldl (fun t (p, v) => t.setIfInBounds p v) a.tmps, defers := [] } W)
    (hbody : ∀ (l : Nat) (pre : List α) (x : α) (W : World), w.heap.size ≤ l → I pre W → body.wpIn (F.inRound l) (n - 1 - 1) P (boxPost w.heap.size Kp (I (pre ++ [x])) (Ix (pre ++ [x])) W) (a₁ x) W)
    (hdone : ∀ (D : Nat) (xs : List α) (W : World), w.heap.size ≤ D → S xs → I xs W → W.heap[D]? = some (.deferred (some [])) → Q .normal { a with defers := { target := .collected D, args := #[] } :: a.defers } W)
    (hstop : ∀ (D : Nat) (pre : List α) (W : World), w.heap.size ≤ D → Sp pre → Ix pre W → W.heap[D]? = some (.deferred (some [])) → Code.ret.wpIn F n P Q { a with defers := { target := .collected D, args := #[] } :: a.defers } W) :
    (Code.rangeFunc g ps assign body).wpIn F n P Q a w := by
  refine wpIn_rangeFunc ?_
  intro fn hfn
  rw [hro]
  obtain ⟨rc, hrc⟩ : ∃ rc : LoopState → Option Code → Loop, rc = boxRec fn a.tmps ps assign body w.heap.size := ⟨_, rfl⟩
  have put_I : ∀ {s : List α} {W : World} (o' : Obj), I s W → I s (W.putObj (w.heap.size + 1) o') := fun o' hs =>
    hI _ _ _ (some _) hs (grownBy_putObj' _ _ o') (fun r e => by cases e; exact .inr (by omega))
  have put_X : ∀ {s : List α} {W : World} (o' : Obj), Ix s W → Ix s (W.putObj (w.heap.size + 1) o') := fun o' hs =>
    hIx _ _ _ (some _) hs (grownBy_putObj' _ _ o') (fun r e => by cases e; exact .inr (by omega))
  obtain ⟨W1, hW1⟩ : ∃ W1, W1 = (w.alloc (.deferred (some []))).alloc (.loop (rc .ready none)) := ⟨_, rfl⟩
  have hb1 : Below w.heap.size w W1 := by rw [hW1]; exact ((Below.refl _ w).alloc (Nat.le_refl _) _).alloc (by simp) _
  have hbk : Books w.heap.size (rc .ready none) W1 := by
    rw [hW1]
    refine ⟨?_, (Below.heap_alloc _ _ _ (by simp)).trans (World.alloc_heap_new w _)⟩
    have := World.alloc_heap_new (w.alloc (.deferred (some []))) (.loop (rc .ready none))
    rwa [World.size_alloc] at this
  have hI1 : I [] W1 := hI _ _ _ none h0 ⟨hb1.os, hb1.tape, hb1.output, hb1.size, fun k hk _ => hb1.block k hk⟩ (fun r e => by cases e)
  refine ⟨w.heap.size + 1, [{ target := .collected w.heap.size, args := #[] }], W1, { target := .fn (.func gf) lb, args := #[.func (.yield (w.heap.size + 1)) #[] #[]] }, W1, gf,
    #[.func (.yield (w.heap.size + 1)) #[] #[]] ++ lb, W1, ?_, ?_, ?_, ?_, fun _ => h1, ?_⟩
  · rw [hW1, hrc]; exact run_enterLoop_outer _ _ _ _ _
  · simp only [resolve, hg]
    simp [go_sem]
  · intro f' hf'; simp [Target.leads] at hf'; subst hf'; exact hFg
  · simp [invoke, go_sem, eg]
  · refine (hseq (w.heap.size + 1) (fun pre W => I pre W ∧ Books w.heap.size (rc .ready none) W) (fun pre W => Ix pre W ∧ Books w.heap.size (rc .done (some .ret)) W) W1 hb1
      (fun s A B hs hg' => ⟨hI s A B _ hs.1 hg' (fun r e => by cases e; exact .inl rfl), hs.2.grown hBs hg'⟩)
      (fun s A B hs hg' => ⟨hIx s A B _ hs.1 hg' (fun r e => by cases e; exact .inl rfl), hs.2.grown hBs hg'⟩) ?_ ⟨hI1, hbk⟩).mono ?_
    · rintro pre x W ⟨hi, hk⟩
      have hy := run_yield (P := P) (args := encs x) hk.1 (by rw [hrc]; exact hps x)
      rw [hrc] at hy
      refine ⟨fn, _, assign, body, hy, roundIn_of_wpIn hfn (hassign _ x W _ ?_)⟩
      clear hy
      refine ⟨_, run_beginRound hk.1 (by rw [hrc]; rfl), ?_⟩
      have hk2 : Books w.heap.size { rc .ready none with state := .busy } (W.putObj (w.heap.size + 1) (.loop { rc .ready none with state := .busy })) := hk.put _
      have hKp2 : Kp W (W.putObj (w.heap.size + 1) (.loop { rc .ready none with state := .busy })) := hKb _ _ _ _ (by omega) hk.1 rfl rfl
      refine wpIn_mono (hbody _ pre x _ (by omega) (put_I _ hi)) ?_
      rintro e a3 W3 hp
      cases e with
      | normal =>
        obtain ⟨hk3, hkp3, hi3⟩ := hp
        have b3 := hk2.keep hk3
        have hr := run_endRound (P := P) none b3.1
        refine ⟨_, _, hr, .inl ⟨rfl, ⟨put_I _ hi3, ?_⟩, hKt (hKt hKp2 hkp3) (hKb _ _ _ _ (by omega) b3.1 rfl rfl)⟩⟩
        have := b3.put (rc .ready none)
        rw [hrc] at this ⊢
        exact this
      | ret =>
        obtain ⟨hk3, hi3⟩ := hp
        have b3 := hk2.keep hk3
        have hr := run_endRound (P := P) (some .ret) b3.1
        refine ⟨_, _, hr, .inr ⟨rfl, put_X _ hi3, ?_⟩⟩
        have := b3.put (rc .done (some .ret))
        rw [hrc] at this ⊢
        exact this
      | exit id => exact hp.elim
      | goto t => exact hp.elim
      | panic ch => exact hp.elim
      | outgrown => exact hp.elim
    · rintro e W2 ⟨⟨v, rfl⟩, (⟨xs, hS, hi, hk⟩ | ⟨pre, hSp, hi, hk⟩)⟩
      · have hr := run_endLoop (P := P) hk.1 (by rw [hrc]; simp [boxRec])
        have hpe : (rc .ready none).pending = none := by rw [hrc]; rfl
        rw [hpe] at hr
        exact ⟨none, _, hr, hdone _ xs _ (Nat.le_refl _) hS (put_I _ hi) (hk.put _).2⟩
      · have hr := run_endLoop (P := P) hk.1 (by rw [hrc]; simp [boxRec])
        have hpe : (rc .done (some .ret)).pending = some .ret := by rw [hrc]; rfl
        rw [hpe] at hr
        exact ⟨some .ret, _, hr, hstop _ pre _ (Nat.le_refl _) hSp (put_X _ hi) (hk.put _).2⟩
end
section
open Go.RowKit Go.Shelf
set_option linter.unusedVariables false
set_option linter.unusedSimpArgs false
set_option maxRecDepth 100000
attribute [local go_sem] Oper.semAt_some

def cellLen : Option Value → Nat
  | some (.string s) => s.size
  | _ => 0
theorem cellp_of {w w' : World} {g i : Nat} (h : w'.heap[g]? = w.heap[g]?) : w'.cell? ⟨g, i, none⟩ = w.cell? ⟨g, i, none⟩ := by simp only [World.cell?, h]
theorem frozenp_of {w w' : World} {g i : Nat} (h : w'.heap[g]? = w.heap[g]?) : w'.frozen? ⟨g, i, none⟩ = w.frozen? ⟨g, i, none⟩ := by simp only [World.frozen?, h]
theorem bset {w : World} {b i : Nat} {vs : Array Value} {u : Value} {t : TypeId} {m : Nat × Nat} (h : w.heap[b]? = some (.cells vs t m)) :
    (w.setCell ⟨b, i, none⟩ u).heap[b]? = some (.cells (vs.setIfInBounds i u) t m) := by
  have hlt := (Array.getElem?_eq_some_iff.1 h).1
  have h' : w.heap[b] = .cells vs t m := by simpa [Array.getElem?_eq_getElem hlt] using h
  show (w.heap.modify b _)[b]? = _
  rw [Array.getElem?_eq_getElem (by simpa using hlt), Array.getElem_modify_self, h']
  rfl
theorem bset_other {w : World} {b k i : Nat} {u : Value} (h : k ≠ b) : (w.setCell ⟨b, i, none⟩ u).heap[k]? = w.heap[k]? := Below.heap_setCell w ⟨b, i, none⟩ u k h
/-- The three boxes of the iterator. -/
structure Bx (Be Bs Bv : Nat) (rest : List UInt8) (w : World) : Prop where
  e : w.heap[Be]? = some (.cells #[.string (bs [47])] 9 (0, 0))
  s : w.heap[Bs]? = some (.cells #[.string (bs rest)] 9 (0, 0))
  v : w.heap[Bv]? = some (.cells #[.int .i64 0] 3 (0, 0))
theorem Bx.below {Be Bs Bv n₀ : Nat} {rest : List UInt8} {w w' : World} (h : Bx Be Bs Bv rest w) (hb : Below n₀ w w') (h1 : Be < n₀) (h2 : Bs < n₀) (h3 : Bv < n₀) : Bx Be Bs Bv rest w' :=
  ⟨(hb.block _ h1).trans h.e, (hb.block _ h2).trans h.s, (hb.block _ h3).trans h.v⟩
theorem Bx.facts {Be Bs Bv : Nat} {rest : List UInt8} {w : World} (h : Bx Be Bs Bv rest w) : w.cell? ⟨Be, 0, none⟩ = some (.string (bs [47])) ∧ w.cell? ⟨Bs, 0, none⟩ = some (.string (bs rest)) ∧ w.cell? ⟨Bv, 0, none⟩ = some (.int .i64 0) ∧ w.frozen? ⟨Bs, 0, none⟩ = false := by
  obtain ⟨h1, h2, h3⟩ := h
  simp [World.cell?, World.frozen?, h1, h2, h3]
theorem Bx.drewN {Be Bs Bv : Nat} {rest : List UInt8} {w : World} (h : Bx Be Bs Bv rest w) (n : Nat) : Bx Be Bs Bv rest (w.drewN n) := ⟨h.e, h.s, h.v⟩
theorem Bx.set {Be Bs Bv : Nat} {rest : List UInt8} {w : World} (h : Bx Be Bs Bv rest w) (r : List UInt8) (h1 : Be ≠ Bs) (h3 : Bv ≠ Bs) : Bx Be Bs Bv r (w.setCell ⟨Bs, 0, none⟩ (.string (bs r))) :=
  ⟨(bset_other h1).trans h.e, by have := bset (i := 0) (u := Value.string (bs r)) h.s; exact this, (bset_other h3).trans h.v⟩
theorem drewN_grown (w : World) (n : Nat) (r : Option Nat) : w.grownBy (w.drewN n) r := ⟨rfl, rfl, rfl, Nat.le_refl _, fun _ _ _ => rfl⟩

set_option maxHeartbeats 4000000 in
theorem split1_in (n : Nat) (hn : 1 ≤ n) (l Be Bs Bv n₀ : Nat) (s0 : List UInt8) (hlen : s0.length ≤ 1000000) (he : Be < n₀ ∧ Be ≠ Bs) (hs : Bs < n₀) (hv : Bv < n₀ ∧ Bv ≠ Bs) (J Jx : List (List UInt8) → World → Prop)
    (hJg : ∀ s A B, J s A → A.grownBy B (some Bs) → J s B)
    (hY : ∀ pre x W, J pre W → YieldAt Fence.wide (n - 1) Tryz.prog l #[.string (bs x)] W fun e W' =>
      (e = .returned (.bool true) ∧ J (pre ++ [x]) W' ∧ Below n₀ W W') ∨ (e = .returned (.bool false) ∧ Jx (pre ++ [x]) W'))
    (W : World) (hB : Bx Be Bs Bv s0 W) (h0 : J [] W) :
    CallsIn Fence.wide n Tryz.prog 87 #[.func (.yield l) #[] #[], .pointer (some ⟨Be, 0, none⟩), .pointer (some ⟨Bs, 0, none⟩), .pointer (some ⟨Bv, 0, none⟩)] W fun e W' => (∃ v, e = .returned v) ∧
      ((∃ ys, ys = pieces s0 ∧ J ys W') ∨ (∃ pre, (∃ suf, pre ++ suf = pieces s0) ∧ Jx pre W')) := by
  refine callsIn_of_wp Tryz.func87 rfl trivial ?_ rfl
  simp only [Tryz.ntmps87, List.size_toArray, List.length_cons, List.length_nil, Nat.reduceAdd, Nat.reduceSub, Array.replicate_succ, Array.replicate_zero, List.push_toArray, List.append_toArray, List.nil_append, List.cons_append]
  obtain ⟨c1, c2, c3, f2⟩ := hB.facts
  have z1 : (bs [47]).size = 1 := by decide
  gi_wp2
  gi_loopw [7, 8] (fun i f wr => ∃ (pre : List (List UInt8)) (rest : List UInt8), pre ++ pieces rest = pieces s0 ∧ rest.length ≤ s0.length ∧ Bx Be Bs Bv rest wr ∧ J pre wr)
    (fun _ _ wr => cellLen (wr.cell? ⟨Bs, 0, none⟩))
  case atStart => exact ⟨[], s0, rfl, Nat.le_refl _, hB, h0⟩
  case round =>
    obtain ⟨pre, rest, hpp, hrl, hBr, hJr⟩ := hrel
    clear c1 c2 c3 f2
    obtain ⟨c1, c2, c3, f2⟩ := hBr.facts
    have HI := Lib.hid (fun W : World => Tryz.strings_Index_one (bs rest) 47 W)
    by_cases hin : 0 ≤ Lib.indexByte rest 47
    · obtain ⟨k, hk, hkl, hkn, hks⟩ := index_some rest hin
      have HK := Lib.hid hk
      have hpc := pieces_at rest k hkn hks
      have HP := Lib.hid hpc
      have zr : (bs rest).size = rest.length := bs_size rest
      have k1 : k < (bs rest).size := by rw [zr]; exact hkl
      have k2 : (k : Int) < ((bs rest).size : Int) := by omega
      have k3 : (bs rest).size ≤ 1000000 := by omega
      have HZ := Lib.hid zr
      clear hin hk hkn hks hpc zr
      have hex : (bs rest).extract 0 k = bs (rest.take k) := by
        have := ext_pre (rest.take k) (rest.drop k) k (by rw [List.length_take]; omega)
        rwa [List.take_append_drop] at this
      have hex2 : (bs rest).extract (k + 1) (bs rest).size = bs (rest.drop (k + 1)) := by
        have := ext_suf (rest.take (k + 1)) (rest.drop (k + 1)) (k + 1) (bs rest).size (by rw [List.length_take]; omega) (by rw [List.take_append_drop, bs_size]; exact Nat.le_refl _)
        rwa [List.take_append_drop] at this
      obtain ⟨fn, tmps, assign, body, hy, hR⟩ := hY pre (rest.take k) wr hJr
      rw [← hex] at hy
      have HE2 := Lib.hid hex2
      clear hex hex2
      gi_wp2_with (refine ⟨trivial, ?_⟩; gi_at_call 89; refine (callsIn_wide.2 (HI.out _)).mono ?_; rintro e w' ⟨rfl, rfl⟩; rw [bs_list, HK.out])
      refine hR.mono ?_
      rintro e W3 (⟨rfl, hJ3, hb3⟩ | ⟨rfl, hJx3⟩)
      · have hB3 := hBr.below hb3 he.1 hs hv.1
        clear c1 c2 c3 f2
        obtain ⟨c1, c2, c3, f2⟩ := hB3.facts
        have hm : cellLen (W3.cell? ⟨Bs, 0, none⟩) = (bs rest).size := by rw [c2]; rfl
        gi_wp2_with fail
        rw [HE2.out]
        go_roundw
        case rel => exact ⟨pre ++ [rest.take k], rest.drop (k + 1), by rw [List.append_assoc, List.singleton_append, ← HP.out, hpp], by rw [List.length_drop]; omega, hB3.set _ he.2 hv.2, hJg _ _ _ hJ3 (grownBy_setCell' _ _ _)⟩
        case measure =>
          rw [(hB3.set (rest.drop (k + 1)) he.2 hv.2).facts.2.1, hBr.facts.2.1]
          show (bs (rest.drop (k + 1))).size < (bs rest).size
          rw [bs_size, bs_size, List.length_drop]; omega
      · gi_wp2_with fail
        refine bodyPost_ret (results_none rfl _ _ _) rfl ?_
        exact ⟨⟨_, rfl⟩, .inr ⟨_, ⟨pieces (rest.drop (k + 1)), by rw [List.append_assoc, List.singleton_append, ← HP.out, hpp]⟩, hJx3⟩⟩
    · have hnone := index_none rest (by omega)
      have HN := Lib.hid hnone
      obtain ⟨fn, tmps, assign, body, hy, hR⟩ := hY pre rest wr hJr
      have d1 : decide (Lib.indexByte rest 47 < 0) = true := by simp; omega
      clear hin hnone
      gi_wp2_with (refine ⟨trivial, ?_⟩; gi_at_call 89; refine (callsIn_wide.2 (HI.out _)).mono ?_; rintro e w' ⟨rfl, rfl⟩; rw [bs_list, HN.out.2])
      refine hR.mono ?_
      rintro e W3 (⟨rfl, hJ3, hb3⟩ | ⟨rfl, hJx3⟩)
      · gi_wp2_with fail
        go_end0
        refine ⟨⟨_, rfl⟩, .inl ⟨_, ?_, hJ3⟩⟩
        rw [← hpp, pieces_none rest HN.out.1]
      · gi_wp2_with fail
        go_end0
        exact ⟨⟨_, rfl⟩, .inr ⟨_, ⟨[], by rw [← hpp, pieces_none rest HN.out.1, List.append_nil]⟩, hJx3⟩⟩

theorem split_box (n : Nat) (hn : 1 ≤ n) (Be Bs Bv : Nat) (s0 : List UInt8) (hlen : s0.length ≤ 1000000) (w : World) (he : Be < w.heap.size ∧ Be ≠ Bs) (hs : Bs < w.heap.size) (hv : Bv < w.heap.size ∧ Bv ≠ Bs) (hB : Bx Be Bs Bv s0 w) :
    SeqBox Fence.wide n Tryz.prog 87 #[.pointer (some ⟨Be, 0, none⟩), .pointer (some ⟨Bs, 0, none⟩), .pointer (some ⟨Bv, 0, none⟩)] (fun x : List UInt8 => #[.string (bs x)]) (Below w.heap.size) (fun ys => ys = pieces s0) (fun pre => ∃ suf, pre ++ suf = pieces s0) Bs w :=
  fun l J Jx W hW hJ _ hY h0 => split1_in n hn l Be Bs Bv w.heap.size s0 hlen he hs hv J Jx hJ hY W (hB.below hW he.1 hs hv.1) h0
set_option maxHeartbeats 1000000 in
theorem splitSeq_in (n : Nat) (s sep : ByteArray) (w : World) :
    CallsIn Fence.wide n Tryz.prog 68 #[.string s, .string sep, .int .i64 0] w fun e w' => e = .returned (.func (.func 87) #[] #[.pointer (some ⟨w.heap.size + 1, 0, none⟩), .pointer (some ⟨w.heap.size, 0, none⟩), .pointer (some ⟨w.heap.size + 2, 0, none⟩)]) ∧ w' = ((w.alloc (.cells #[.string s] 9)).alloc (.cells #[.string sep] 9)).alloc (.cells #[.int .i64 0] 3) := by
  refine callsIn_of_wp Tryz.func68 rfl trivial ?_ rfl
  simp only [Tryz.ntmps68, List.size_toArray, List.length_cons, List.length_nil, Nat.reduceAdd, Nat.reduceSub, Array.replicate_succ, Array.replicate_zero, List.push_toArray, List.append_toArray, List.nil_append, List.cons_append]
  gi_wp2
  go_ret
  exact ⟨rfl, rfl⟩
set_option maxHeartbeats 1000000 in
theorem splitSeq2_in (n : Nat) (hn : 1 ≤ n) (s sep : ByteArray) (w : World) :
    CallsIn Fence.wide n Tryz.prog 53 #[.string s, .string sep] w fun e w' => e = .returned (.func (.func 87) #[] #[.pointer (some ⟨w.heap.size + 1, 0, none⟩), .pointer (some ⟨w.heap.size, 0, none⟩), .pointer (some ⟨w.heap.size + 2, 0, none⟩)]) ∧ w' = ((w.alloc (.cells #[.string s] 9)).alloc (.cells #[.string sep] 9)).alloc (.cells #[.int .i64 0] 3) := by
  refine callsIn_of_wp Tryz.func53 rfl trivial ?_ rfl
  simp only [Tryz.ntmps53, List.size_toArray, List.length_cons, List.length_nil, Nat.reduceAdd, Nat.reduceSub, Array.replicate_succ, Array.replicate_zero, List.push_toArray, List.append_toArray, List.nil_append, List.cons_append]
  gi_wp2_with (refine ⟨trivial, ?_⟩; gi_at_call 68; refine (splitSeq_in _ _ _ _).mono ?_; rintro e w' ⟨rfl, rfl⟩)
  go_ret
  exact ⟨rfl, rfl⟩
end
section
open Go.RowKit Go.Shelf
set_option linter.unusedVariables false
set_option linter.unusedSimpArgs false
set_option maxRecDepth 100000
attribute [local go_sem] Oper.semAt_some

theorem wide_in {P : Program} {f : Nat} {args : Array Value} {w : World} {R : Ending → World → Prop} (h : Calls P f args w R) (n : Nat) : CallsIn Fence.wide n P f args w R := callsIn_wide.2 h
theorem at_new {w : World} {o : Obj} {k : Nat} (hk : k = w.heap.size) : (w.alloc o).heap[k]? = some o := by rw [hk]; exact World.alloc_heap_new w o
theorem at_old {w : World} {o x : Obj} {k : Nat} (h : w.heap[k]? = some x) : (w.alloc o).heap[k]? = some x := (Below.heap_alloc w o k (Array.getElem?_eq_some_iff.1 h).1).trans h
theorem checkL_root : checkL [47] = true := by decide
theorem checkL_off {l : List UInt8} (hr : l ≠ [47]) (h : ¬ (l.head? = some 47 ∧ l.length ≤ 60)) : checkL l = false := by
  unfold checkL
  by_cases h1 : l.head? = some 47
  · have h2 : ¬ l.length ≤ 60 := fun e => h ⟨h1, e⟩
    simp [hr, h2]
  · simp [hr, h1]
theorem checkL_on {l : List UInt8} (hr : 47 :: l ≠ [47]) (h : (47 :: l).length ≤ 60) : checkL (47 :: l) = (pieces l).all partL := by
  unfold checkL
  simp at h
  simp at hr
  simp [hr, h]
theorem prefix_slash (l : List UInt8) : Lib.hasPrefix l [47] = decide (l.head? = some 47) := by
  unfold Lib.hasPrefix
  cases l with
  | nil => simp [List.isPrefixOf]
  | cons a r => 
    by_cases h : a = 47
    · subst h; simp [List.isPrefixOf]
    · have h2 : ¬ (47 = a) := fun e => h e.symm
      simp [List.isPrefixOf, h, h2]
set_option maxHeartbeats 2000000 in
theorem check_root (w : World) : Calls Tryz.prog 29 #[.string (bs [47])] w fun e w' => e = .returned (.int .i64 0) ∧ Below w.heap.size w w' := by
  have er := eq_true (bs_list [47])
  go_enter Tryz.func29, Tryz.ntmps29
  go_wp2_with fail
  exact bodyPost_ret (v := .int .i64 0) (by simp [results, Tryz.results29, go_sem]) rfl ⟨rfl, (Below.refl _ _).alloc (Nat.le_refl _) _⟩
set_option maxHeartbeats 2000000 in
theorem check_off (s : ByteArray) (w : World) (hr : s.data.toList ≠ [47]) (h : ¬ (s.data.toList.head? = some 47 ∧ s.data.toList.length ≤ 60)) : Calls Tryz.prog 29 #[.string s] w fun e w' => e = .returned (.int .i64 10) ∧ Below w.heap.size w w' := by
  have er := eq_false hr
  have HA := Lib.hid (fun W : World => Tryz.strings_CutPrefix s (bs [47]) W)
  have hz := Lib.size_eq s
  by_cases hp : s.data.toList.head? = some 47
  · have hP : Lib.hasPrefix s.data.toList [47] = true := by rw [prefix_slash]; simpa using hp
    have hl : 60 < s.size := by rw [hz]; exact Nat.lt_of_not_le fun e => h ⟨hp, e⟩
    have e2 : decide ((60 : Int) < (s.size : Int)) = true := by simp; omega
    have HP := Lib.hid hP
    clear hp hP h hr hz
    go_enter Tryz.func29, Tryz.ntmps29
    go_wp2_with fail
    refine (HA.out _).mono ?_
    rintro e w' ⟨rfl, rfl⟩
    rw [bs_list, HP.out]
    go_wp2_with fail
    exact bodyPost_ret (v := .int .i64 10) (by simp [results, Tryz.results29, go_sem]) rfl ⟨rfl, ((Below.refl _ _).alloc (Nat.le_refl _) _)⟩
  · have hP : Lib.hasPrefix s.data.toList [47] = false := by rw [prefix_slash]; simpa using hp
    have HP := Lib.hid hP
    clear hp hP h hr hz
    go_enter Tryz.func29, Tryz.ntmps29
    go_wp2_with fail
    refine (HA.out _).mono ?_
    rintro e w' ⟨rfl, rfl⟩
    rw [bs_list, HP.out]
    go_wp2_with fail
    exact bodyPost_ret (v := .int .i64 10) (by simp [results, Tryz.results29, go_sem]) rfl ⟨rfl, ((Below.refl _ _).alloc (Nat.le_refl _) _)⟩
/-- What Check answers of a slash and l. -/
def partsE (l : List UInt8) : Int := if (pieces l).all partL then 0 else 10
set_option maxHeartbeats 4000000 in
theorem check_in (l : List UInt8) (hl : l.length ≤ 59) (hne : l ≠ []) (w : World) :
    CallsIn Fence.wide 6 Tryz.prog 29 #[.string (bs (47 :: l))] w fun e w' => e = .returned (.int .i64 (partsE l)) ∧ Below w.heap.size w w' := by
  have hro : Fence.wide.round = none := rfl
  have er := eq_false (s := bs (47 :: l)) (l := [47]) (by rw [bs_list]; simpa using hne)
  have HA := Lib.hid (fun W : World => Tryz.strings_CutPrefix (bs (47 :: l)) (bs [47]) W)
  have hP : Lib.hasPrefix (47 :: l) [47] = true := by rw [prefix_slash]; simp
  have HP := Lib.hid hP
  have hT : Lib.trimPrefix (47 :: l) [47] = l := by unfold Lib.trimPrefix; rw [if_pos hP]; rfl
  have HT := Lib.hid hT
  have hz : (bs (47 :: l)).size = l.length + 1 := by rw [bs_size]; simp
  have e2 : decide ((60 : Int) < ((bs (47 :: l)).size : Int)) = false := by simp; omega
  have HZ := Lib.hid hz
  have hzb : (bs (47 :: l)).size ≤ 60 := by omega
  clear hP hT hz hne
  refine callsIn_of_wp_marks Tryz.func29 rfl trivial ?_ hro
  simp only [Tryz.ntmps29, List.size_toArray, List.length_cons, List.length_nil, Nat.reduceAdd, Nat.reduceSub, Array.replicate_succ, Array.replicate_zero, List.push_toArray, List.append_toArray, List.nil_append, List.cons_append]
  gi_wp2_with (refine ⟨trivial, ?_⟩; first | (gi_at_call 52; refine (callsIn_wide.2 (HA.out _)).mono ?_; rintro e w' ⟨rfl, rfl⟩; rw [bs_list, bs_list, HP.out, HT.out]) | (gi_at_call 53; refine (splitSeq2_in _ (by omega) _ _ _).mono ?_; rintro e w' ⟨rfl, rfl⟩))
  obtain ⟨h, hh⟩ : ∃ h, h = w.heap.size := ⟨_, rfl⟩
  obtain ⟨W0, hW0⟩ : ∃ W0, W0 = (((w.alloc (.cells #[.int .i64 0] 36)).alloc (.cells #[.string ⟨l.toArray⟩] 9)).alloc (.cells #[.string ⟨#[47]⟩] 9)).alloc (.cells #[.int .i64 0] 3) := ⟨_, rfl⟩
  have hs0 : W0.heap.size = h + 4 := by rw [hW0, hh]; simp
  have hb0 : Below w.heap.size w W0 := by rw [hW0]; exact ((((Below.refl _ _).alloc (Nat.le_refl _) _).alloc (by simp) _).alloc (by simp; omega) _).alloc (by simp; omega) _
  have hbx : Bx (h + 2) (h + 1) (h + 3) l W0 := by
    rw [hW0, hh]
    exact ⟨at_old (at_new (by simp)), at_old (at_old (at_new (by simp))), at_new (by simp)⟩
  have hres : W0.heap[h]? = some (.cells #[.int .i64 0] 36 (0, 0)) := by
    rw [hW0, hh]; exact at_old (at_old (at_old (at_new rfl)))
  rw [← hW0, ← hh]
  rw [← hh] at hb0
  clear hW0
  have HH := Lib.hid hh
  clear hh
  refine wpIn_range_box hro (by omega) (gf := 87) (lb := #[.pointer (some ⟨h + 2, 0, none⟩), .pointer (some ⟨h + 1, 0, none⟩), .pointer (some ⟨h + 3, 0, none⟩)]) rfl trivial (enters_of Tryz.func87 (by kernel_rfl) rfl)
    (split_box _ (by omega) (h + 2) (h + 1) (h + 3) l (by omega) W0 (by omega) (by omega) (by omega) hbx) (by omega) Below.trans (fun W j o o' hj hw hc hk => belowK_b (Nat.le_refl _) W j o o' hj hw hc hk) (fun _ => rfl)
    (fun pre W => Below h w W ∧ W.heap[h]? = some (.cells #[.int .i64 0] 36 (0, 0)) ∧ Hid (pre.all partL = true))
    (fun pre W => Below h w W ∧ W.heap[h]? = some (.cells #[.int .i64 10] 36 (0, 0)) ∧ Hid (pre.all partL = false))
    ?hI ?hIx ?h0 (fun x => { tmps := #[.string (bs (47 :: l)), undef, .pointer (some ⟨h, 0, none⟩), .string ⟨l.toArray⟩, .bool true, .string (bs x), .string (bs (47 :: l)), .bool false, .tuple #[.string ⟨l.toArray⟩, .bool true], .string (bs (47 :: l)), .tuple #[.string ⟨l.toArray⟩, .bool true], .string ⟨l.toArray⟩, .bool true, .bool true, .bool false, .bool false, .string (bs (47 :: l)), .int .i64 ((bs (47 :: l)).size : Int), .bool false, .bool false, .string ⟨l.toArray⟩, .func (.func 87) #[] #[.pointer (some ⟨h + 2, 0, none⟩), .pointer (some ⟨h + 1, 0, none⟩), .pointer (some ⟨h + 3, 0, none⟩)], .string (bs x), undef, undef, undef], defers := [] }) ?assign ?body ?done ?stop
  case hI =>
    rintro s A B row ⟨i1, i2, i3⟩ hg hr
    have hne : ∀ k, k ≤ h → some k ≠ row := fun k hk e => by have := hr k e.symm; omega
    have hlt := (Array.getElem?_eq_some_iff.1 i2).1
    exact ⟨i1.trans ⟨hg.os, hg.tape, hg.output, hg.size, fun k hk => hg.block k (by omega) (hne k (by omega))⟩, (hg.block h hlt (hne h (Nat.le_refl _))).trans i2, i3⟩
  case hIx =>
    rintro s A B row ⟨i1, i2, i3⟩ hg hr
    have hne : ∀ k, k ≤ h → some k ≠ row := fun k hk e => by have := hr k e.symm; omega
    have hlt := (Array.getElem?_eq_some_iff.1 i2).1
    exact ⟨i1.trans ⟨hg.os, hg.tape, hg.output, hg.size, fun k hk => hg.block k (by omega) (hne k (by omega))⟩, (hg.block h hlt (hne h (Nat.le_refl _))).trans i2, i3⟩
  case h0 => exact ⟨hb0, hres, rfl⟩
  case assign =>
    intro l' x W K hK
    gi_wp2
    exact hK
  case body =>
    rintro l' pre x W hlo ⟨i1, i2, i3⟩
    have c2 : W.cell? ⟨h, 0, none⟩ = some (.int .i64 0) := by simp [World.cell?, i2]
    have f2 : W.frozen? ⟨h, 0, none⟩ = false := by simp [World.frozen?, i2]
    have hW : h < W.heap.size := (Array.getElem?_eq_some_iff.1 i2).1
    cases hp : partL x
    · have HPX := Lib.hid hp
      clear hp
      gi_wp2_with (refine ⟨trivial, ?_⟩; gi_at_call 54; refine (CallsIn.inRound l' (callsIn_wide.2 (part_any _ _))).mono ?_; rintro e w' ⟨rfl, rfl⟩; rw [bs_list, HPX.out])
      exact ⟨(KeepsOthers.setCell _ _ _).from _, i1.setCell (Nat.le_refl _) _, by have := bset (i := 0) (u := Value.int .i64 10) i2; exact this, by show Hid _; exact Lib.hid (by rw [List.all_append]; simp [HPX.out])⟩
    · have HPX := Lib.hid hp
      clear hp
      gi_wp2_with (refine ⟨trivial, ?_⟩; gi_at_call 54; refine (CallsIn.inRound l' (callsIn_wide.2 (part_any _ _))).mono ?_; rintro e w' ⟨rfl, rfl⟩; rw [bs_list, HPX.out])
      exact ⟨KeepsFrom.refl _ _, Below.refl _ _, i1, i2, by show Hid _; exact Lib.hid (by rw [List.all_append, i3.out]; simp [HPX.out])⟩
  case done =>
    rintro D ys W hD rfl ⟨i1, i2, i3⟩ hDW
    have c2 : W.cell? ⟨h, 0, none⟩ = some (.int .i64 0) := by simp [World.cell?, i2]
    have f2 : W.frozen? ⟨h, 0, none⟩ = false := by simp [World.frozen?, i2]
    have hE : partsE l = 0 := by unfold partsE; rw [if_pos i3.out]
    have HE := Lib.hid hE
    clear hE
    gi_wp2
    have hD2 := (KeepsOthers.setCell W ⟨h, 0, none⟩ (.int .i64 0)).same D _ hDW rfl
    refine ⟨by simp, .inl ⟨_, _, rfl, run_takeDeferred hD2, ?_⟩⟩
    have hb2 : W.heap[h]? = some (.cells #[.int .i64 0] 36 (0, 0)) := i2
    have hDh : D ≠ h := by omega
    have c3 : ((W.setCell ⟨h, 0, none⟩ (.int .i64 0)).putObj D (.deferred none)).cell? ⟨h, 0, none⟩ = some (.int .i64 0) := by
      have := bset (i := 0) (u := Value.int .i64 0) i2
      simp only [World.cell?]
      rw [World.putObj_heap_other (by omega), this]; rfl
    refine ⟨_, by simp [results, Tryz.results29, go_sem, c3]; rfl, by rw [HE.out], ?_⟩
    have hb : Below h w (W.setCell ⟨h, 0, none⟩ (.int .i64 0)) := i1.setCell (Nat.le_refl _) _
    rw [← HH.out]
    exact hb.trans (belowK_b (w := w) (by rw [HH.out]; exact Nat.le_refl _) _ D _ _ (by have := HH.out; omega) hD2 rfl rfl)
  case stop =>
    rintro D pre W hD ⟨suf, hsuf⟩ ⟨i1, i2, i3⟩ hDW
    have hE : partsE l = 10 := by unfold partsE; rw [if_neg (by rw [← hsuf, List.all_append, i3.out]; simp)]
    have HE := Lib.hid hE
    clear hE hsuf
    gi_wp2
    refine ⟨by simp, .inl ⟨_, _, rfl, run_takeDeferred hDW, ?_⟩⟩
    have c3 : (W.putObj D (.deferred none)).cell? ⟨h, 0, none⟩ = some (.int .i64 10) := by
      simp only [World.cell?]
      rw [World.putObj_heap_other (by omega), i2]; rfl
    refine ⟨_, by simp [results, Tryz.results29, go_sem, c3]; rfl, by rw [HE.out], ?_⟩
    rw [← HH.out]
    exact i1.trans (belowK_b (w := w) (by rw [HH.out]; exact Nat.le_refl _) _ D _ _ (by have := HH.out; omega) hDW rfl rfl)
/-- What Check answers of any text. -/
def checkE (l : List UInt8) : Int := if checkL l then 0 else 10
theorem check_any (s : ByteArray) (w : World) :
    Calls Tryz.prog 29 #[.string s] w fun e w' => e = .returned (.int .i64 (checkE s.data.toList)) ∧ Below w.heap.size w w' := by
  by_cases hr : s.data.toList = [47]
  · have e : s = bs [47] := by rw [← hr, bs_of]
    have : checkE s.data.toList = 0 := by rw [hr]; decide
    rw [this, e]; exact check_root w
  · by_cases h : s.data.toList.head? = some 47 ∧ s.data.toList.length ≤ 60
    · cases hl : s.data.toList with
      | nil => rw [hl] at h; simp at h
      | cons a l =>
        rw [hl] at h hr
        obtain rfl : a = 47 := by simpa using h.1
        have e : s = bs (47 :: l) := by rw [← hl, bs_of]
        have : checkE (47 :: l) = partsE l := by unfold checkE partsE; rw [checkL_on hr h.2]
        rw [this, e]
        exact callsIn_wide.1 (check_in l (by have := h.2; simp at this; omega) (fun e => hr (by rw [e])) w)
    · have : checkE s.data.toList = 10 := by unfold checkE; rw [checkL_off hr h]; rfl
      rw [this]; exact check_off s w hr h
end
section
open Go.RowKit Go.Shelf
set_option linter.unusedVariables false
set_option linter.unusedSimpArgs false
set_option maxRecDepth 100000

/-- A slice of ints that can be read: ns. -/
def IntsA (w : World) (v : Value) (ns : List Int) : Prop :=
  ∃ a cap, v = .slice a ns.length cap ∧ ns.length ≤ cap ∧ cap ≤ maxLen ∧ (ns.length = 0 ∨ ∃ g off, a = some ⟨g, off, none⟩ ∧ g < w.heap.size ∧ ∀ j, j < ns.length → w.cell? ⟨g, off + j, none⟩ = some (.int .i64 (ns.getD j 0)))
theorem IntsA.below {w x : World} {v : Value} {ns : List Int} (h : IntsA w v ns) (hb : Below w.heap.size w x) : IntsA x v ns := by
  obtain ⟨a, cap, hv, hm, hc', h⟩ := h
  refine ⟨a, cap, hv, hm, hc', h.imp id ?_⟩
  rintro ⟨g, off, ha, hg, hc⟩
  exact ⟨g, off, ha, Nat.lt_of_lt_of_le hg hb.size, fun j hj => (hb.cell (p := ⟨g, off + j, none⟩) hg).trans (hc j hj)⟩
/-- The words of a list of numbers, as Made takes them. -/
def wordU (n : Int) : List UInt8 := wordI (n % 18446744073709551616)
def wsOf (ns : List Int) : List (List UInt8) := ns.map wordU
theorem bodyL_snoc (ws : List (List UInt8)) (p : List UInt8) : bodyL (ws ++ [p]) = bodyL ws ++ 47 :: p := by simp [bodyL]
theorem bodyL_len (ns : List Int) : (bodyL (wsOf ns)).length ≤ 4 * ns.length := by
  induction ns with
  | nil => simp [bodyL, wsOf]
  | cons n l ih =>
    have := (word_len (n % 18446744073709551616)).2
    simp [bodyL, wsOf] at ih ⊢
    unfold wordU at *
    omega
theorem bodyL_nil (ws : List (List UInt8)) : bodyL ws = [] ↔ ws = [] := by
  cases ws with
  | nil => simp [bodyL]
  | cons a l => simp [bodyL]
theorem wrapu (z : Int) : IntKind.u64.wrap z = z % 18446744073709551616 := by
  simp [IntKind.wrap, IntKind.bits, IntKind.signed]
theorem pick5 (z : Int) (P : Prop) (h : ∀ q : Nat, q < 5 → IntKind.u64.wrap z % 5 = q → wrap64 ((IntKind.u64.wrap z).tmod 5) = (q : Int) → P) : P := by
  have hw := wrapu z
  have h0 : 0 ≤ IntKind.u64.wrap z := by omega
  have ht : (IntKind.u64.wrap z).tmod 5 = IntKind.u64.wrap z % 5 := Int.tmod_eq_emod_of_nonneg h0
  refine h ((IntKind.u64.wrap z) % 5).toNat (by omega) (by omega) ?_
  rw [ht]; unfold wrap64; omega
theorem wordU_at {z : Int} {q : Nat} (h : IntKind.u64.wrap z % 5 = q) (hq : q < 5) : wordU z = [[97], [98], [99], [110, 49], [120, 45, 121]].getD q [] := by
  rw [wrapu] at h
  unfold wordU wordI
  rw [h]
  match q, hq with
  | 0, _ => rfl
  | 1, _ => rfl
  | 2, _ => rfl
  | 3, _ => rfl
  | 4, _ => rfl
set_option maxHeartbeats 4000000 in
theorem made_any (v : Value) (ns : List Int) (w : World) (h : IntsA w v ns) (hn : ns.length ≤ 1000) (hw : ∀ n ∈ ns, (Lit.int .i64 n).wf = true) :
    Calls Tryz.prog 38 #[v] w fun e w' => e = .returned (.string (bs (madeL (wsOf ns)))) ∧ Below w.heap.size w w' := by
  obtain ⟨a, cap, rfl, hlc, hcm, hc⟩ := h
  go_enter Tryz.func38, Tryz.ntmps38
  go_wp2
  go_loopw [3, 5, 8] (fun sv _ iv wr => ∃ k : Nat, k ≤ ns.length ∧ iv = .int .i64 k ∧ sv = .string (bs (bodyL (wsOf (ns.take k)))) ∧ Below w.heap.size w wr) (fun _ _ iv _ => ns.length - (intOf iv).toNat)
  case atStart => exact ⟨0, Nat.zero_le _, rfl, rfl, Below.refl _ _⟩
  case round =>
    obtain ⟨k, hk, rfl, rfl, hb⟩ := hrel
    by_cases hlt : k < ns.length
    · obtain ⟨g, off, rfl, hg, hcell⟩ := hc.resolve_left (by omega)
      obtain ⟨z, hz⟩ : ∃ z, z = ns.getD k 0 := ⟨_, rfl⟩
      have hc1 := (hb.cell (p := ⟨g, off + k, none⟩) hg).trans (hcell k hlt)
      rw [← hz] at hc1
      have HZ := Lib.hid hz
      have h1 : (k : Int) < (ns.length : Int) := by omega
      have h2 : (0 : Int) ≤ (k : Int) := by omega
      clear hz hcell hc
      have hbl := bodyL_len (ns.take k)
      have hbl2 : (ns.take k).length ≤ k := List.length_take_le _ _
      have hsz : (bs (bodyL (wsOf (ns.take k)))).size ≤ 4000 := by rw [bs_size]; omega
      have HTS : Hid (wsOf (ns.take (k + 1)) = wsOf (ns.take k) ++ [wordU z]) := Lib.hid (by
        unfold wsOf; rw [List.take_succ_eq_append_getElem hlt, List.map_append, HZ.out]; simp [List.getD_eq_getElem?_getD, hlt])
      have hbs := hb.size
      obtain ⟨sk, hsk⟩ : ∃ sk, sk = bs (bodyL (wsOf (ns.take k))) := ⟨_, rfl⟩
      have HSK := Lib.hid hsk
      rw [← hsk] at hsz ⊢
      clear hsk
      refine pick5 z _ fun q hq hq1 hq2 => ?_
      have HW := Lib.hid (wordU_at hq1 hq)
      clear hq1
      have fin : ∀ x : List UInt8, wordU z = x → Value.string (sk ++ ⟨#[47]⟩ ++ ⟨x.toArray⟩) = .string (bs (bodyL (wsOf (ns.take (k + 1))))) := by
        intro x hx
        rw [HTS.out, bodyL_snoc, hx, HSK.out, app_bs, app_bs, bs_list, bs_list]
        simp
      obtain rfl | rfl | rfl | rfl | rfl : q = 0 ∨ q = 1 ∨ q = 2 ∨ q = 3 ∨ q = 4 := by omega
      · have hq3 : wrap64 ((IntKind.u64.wrap z).tmod 5) = 0 := hq2
        clear hq2 hq
        go_wp2_with fail
        go_roundw
        case rel => exact ⟨k + 1, by omega, by go_num, fin _ HW.out, hb.alloc hbs _⟩
        case measure => simp [intOf]; omega
      · have hq3 : wrap64 ((IntKind.u64.wrap z).tmod 5) = 1 := hq2
        clear hq2 hq
        go_wp2_with fail
        go_roundw
        case rel => exact ⟨k + 1, by omega, by go_num, fin _ HW.out, hb.alloc hbs _⟩
        case measure => simp [intOf]; omega
      · have hq3 : wrap64 ((IntKind.u64.wrap z).tmod 5) = 2 := hq2
        clear hq2 hq
        go_wp2_with fail
        go_roundw
        case rel => exact ⟨k + 1, by omega, by go_num, fin _ HW.out, hb.alloc hbs _⟩
        case measure => simp [intOf]; omega
      · have hq3 : wrap64 ((IntKind.u64.wrap z).tmod 5) = 3 := hq2
        clear hq2 hq
        go_wp2_with fail
        go_roundw
        case rel => exact ⟨k + 1, by omega, by go_num, fin _ HW.out, hb.alloc hbs _⟩
        case measure => simp [intOf]; omega
      · have hq3 : wrap64 ((IntKind.u64.wrap z).tmod 5) = 4 := hq2
        clear hq2 hq
        go_wp2_with fail
        go_roundw
        case rel => exact ⟨k + 1, by omega, by go_num, fin _ HW.out, hb.alloc hbs _⟩
        case measure => simp [intOf]; omega
    · obtain rfl : k = ns.length := by omega
      rw [List.take_length]
      by_cases h0 : ns = []
      · subst h0
        have e0 : (bs (bodyL (wsOf []))).toList.isEmpty = true := by rw [Lib.toList_data, bs_list]; rfl
        go_wp2_with fail
        go_ret
        exact ⟨ret_s (by rfl), hb⟩
      · have e0 : (bs (bodyL (wsOf ns))).toList.isEmpty = false := by
          rw [Lib.toList_data, bs_list, List.isEmpty_eq_false_iff]
          intro e; exact h0 (by simpa [wsOf] using (bodyL_nil _).1 e)
        go_wp2_with fail
        go_ret
        exact ⟨ret_s (by unfold madeL; rw [if_neg (by simpa [wsOf] using h0)]), hb⟩
theorem made_len (ns : List Int) : (madeL (wsOf ns)).length ≤ 4 * ns.length + 1 := by
  have := bodyL_len ns
  unfold madeL; split <;> simp <;> omega
end
section
open Go.ChangeShapes Go.WideShapes Go.ChangeAt Go.RowKit
set_option linter.unusedVariables false
set_option linter.unusedSimpArgs false
set_option maxRecDepth 100000

theorem und_int8 : Tryz.prog.underlying 3 = some (.int .i64) := by kernel_rfl
theorem und_ints8 : Tryz.prog.underlying 29 = some (.slice 3) := by kernel_rfl
/-- A slice of ints that came in. -/
def IntsR (w : World) (v : Value) (ns : List Int) : Prop := IntsA w v ns ∧ ∀ n ∈ ns, (Lit.int .i64 n).wf = true
section
variable {H : Type} {enc : TypeId × Value → H} {W : World} {base b0 : Nat} {spare : Nat → Bool} {held : Bool} {v : Value} {d : DataW H} {p : List MemPlace}
theorem ints_of (hv : Value.okWide Tryz.prog W .any b0 29 v) (h : DataW.Trod enc Tryz.prog W base spare held 29 v d p) : ∃ zs, IntsR W v zs := by
  obtain ⟨a, len, cap, rfl⟩ := okWide_slice und_ints8 hv
  obtain ⟨fuel, hf⟩ := h
  rcases open_ints und_ints8 und_int8 (by kernel_rfl) hf with ⟨hcs, _⟩ | ⟨x, l, c, zs, hcs, _, hl, hm, hz, _, hcell, hwz⟩
  · simp [Value.cells] at hcs
    obtain ⟨rfl, rfl, rfl⟩ := hcs
    exact ⟨[], ⟨none, 0, rfl, Nat.le_refl _, by decide, .inl rfl⟩, fun n hn => by cases hn⟩
  · simp [Value.cells] at hcs
    obtain ⟨rfl, rfl, rfl⟩ := hcs
    have hlz : len ≤ zs.length := by rw [hz]; split <;> omega
    refine ⟨zs.take len, ⟨some x, cap, by rw [List.length_take, Nat.min_eq_left hlz], by rw [List.length_take]; omega, hm, ?_⟩, fun n hn => hwz n (List.mem_of_mem_take hn)⟩
    by_cases h0 : len = 0
    · exact .inl (by rw [List.length_take]; omega)
    · obtain ⟨b, off, spot⟩ := x
      have hc0 := hcell 0 (by omega)
      have hspot : spot = none := by simpa [Addr.add] using World.cell?_spot hc0
      subst hspot
      have hadd : ∀ j : Nat, (Addr.add ⟨b, off, none⟩ j : Addr) = ⟨b, off + j, none⟩ := fun j => by simp [Addr.add]
      refine .inr ⟨b, off, rfl, ?_, fun j hj => ?_⟩
      · rw [hadd] at hc0
        exact World.block_lt_of_cell? W _ hc0
      · have hj' : j < len := by rw [List.length_take] at hj; omega
        have := hcell j (by omega)
        rw [hadd] at this
        rw [this]
        simp [List.getD_eq_getElem?_getD, hj']
theorem witness_zip {C : Checked} {os : Os} {f : FuncId} {fn : Func} {s : OpenSpec} {conds : List PathCond} {apart : Bool} {laid : List (String × DataW Unit)} (modest : Bool) (w0 : World) (args : Array Value) (hos : w0.os = os)
    (hsh : (w0.forCall (fun _ _ => 0) ⟨#[], args, []⟩).Shaped C.prog)
    (hok : Input.okWideB C.prog (w0.forCall (fun _ _ => 0) ⟨#[], args, []⟩) f ⟨#[], args, []⟩ = true)
    (hrow : s.preRow enc C.prog fn conds apart laid (w0.forCall (fun _ _ => 0) ⟨#[], args, []⟩).memory args) :
    ∃ (w : World) (tape : Tape) (i : Input), w.os = os ∧ (w.forCall tape i).Shaped C.prog ∧ i.vars = [] ∧ Input.okWide C.prog (w.forCall tape i) .any w.heap.size f i ∧
      s.preRow enc C.prog fn conds apart laid (w.forCall tape i).memory i.args ∧ ({ modest := modest } : Assume).holds C.prog (lone (Frame.enter C.prog f i.args .normal) [] (w.forCall tape i)) :=
  ⟨w0, fun _ _ => 0, ⟨#[], args, []⟩, hos, hsh, (Input.okWide_of_okWideB (base := 0) hok).1, (Input.okWide_of_okWideB hok).2, hrow, by
    simp only [Assume.holds]
    exact ⟨by simp, by simp, fun _ => Modest.zero, by simp, by simp⟩⟩
end
end
section
set_option linter.unusedVariables false
set_option linter.unusedSimpArgs false

/-- Is the text t below the path u (u not the root). -/
def below2 (s u : List UInt8) : Bool := u.isPrefixOf s && Lib.hasPrefix (s.drop u.length) [47]
/-- What Below answers. -/
def belowL (s u : List UInt8) : Bool := if u = [47] then !(decide (s = [47])) && checkL s else below2 s u
/-- A word: no slash in it, not empty. -/
def Wd (v : List UInt8) : Prop := (47 : UInt8) ∉ v ∧ v ≠ []
theorem head_of_body (ws : List (List UInt8)) : bodyL ws = [] ∨ ∃ r, bodyL ws = 47 :: r := by
  cases ws with
  | nil => exact .inl rfl
  | cons a l => exact .inr ⟨a ++ bodyL l, by simp [bodyL]⟩
theorem word_cut : ∀ (v w x y : List UInt8), (47 : UInt8) ∉ v → (47 : UInt8) ∉ w → (y = [] ∨ ∃ r, y = 47 :: r) → (v ++ 47 :: x) <+: (w ++ y) → v = w ∧ (47 :: x) <+: y
  | [], [], x, y, _, _, _, h => ⟨rfl, by simpa using h⟩
  | [], c :: w, x, y, _, hw, _, h => by
    simp at h hw
    exact absurd h.1 hw.1
  | c :: v, [], x, y, hv, _, hy, h => by
    rcases hy with rfl | ⟨r, rfl⟩
    · simp at h
    · simp at h hv
      exact absurd h.1.symm hv.1
  | c :: v, d :: w, x, y, hv, hw, hy, h => by
    simp at h hv hw
    obtain ⟨rfl, h⟩ := h
    have := word_cut v w x y hv.2 hw.2 hy h
    exact ⟨by rw [this.1], this.2⟩
theorem body_prefix : ∀ (vs ws : List (List UInt8)), (∀ v ∈ vs, Wd v) → (∀ w ∈ ws, Wd w) → ((bodyL vs ++ [47]) <+: bodyL ws ↔ (vs <+: ws ∧ vs.length < ws.length))
  | [], [], _, _ => by simp [bodyL]
  | [], w :: ws, _, _ => by simp [bodyL]
  | v :: vs, [], _, _ => by simp [bodyL]
  | v :: vs, w :: ws, hv, hw => by
    have ih := body_prefix vs ws (fun x hx => hv x (by simp [hx])) (fun x hx => hw x (by simp [hx]))
    have e1 : bodyL (v :: vs) ++ [47] = 47 :: (v ++ (bodyL vs ++ [47])) := by simp [bodyL]
    have e2 : bodyL (w :: ws) = 47 :: (w ++ bodyL ws) := by simp [bodyL]
    rw [e1, e2]
    constructor
    · intro h
      have h' : (v ++ (bodyL vs ++ [47])) <+: (w ++ bodyL ws) := by simpa using h
      obtain ⟨x, hx⟩ : ∃ x, bodyL vs ++ [47] = 47 :: x := by
        rcases head_of_body vs with e | ⟨r, e⟩ <;> rw [e] <;> simp
      rw [hx] at h' ih
      have := word_cut v w x (bodyL ws) (hv v (by simp)).1 (hw w (by simp)).1 (head_of_body ws) h'
      obtain ⟨rfl, h2⟩ := this
      have := ih.1 h2
      exact ⟨by simpa using this.1, by simpa using this.2⟩
    · rintro ⟨h1, h2⟩
      have h1' : v = w ∧ vs <+: ws := by simpa using h1
      obtain ⟨rfl, h3⟩ := h1'
      have := ih.2 ⟨h3, by simpa using h2⟩
      simpa using this
/-- Is vs a part of ws, from the head on, and not all of it. -/
def inB (ws vs : List (List UInt8)) : Bool := vs.isPrefixOf ws && decide (vs.length < ws.length)
theorem inB_iff (ws vs : List (List UInt8)) : inB ws vs = true ↔ (vs <+: ws ∧ vs.length < ws.length) := by
  unfold inB; simp
theorem below2_iff (s u : List UInt8) : below2 s u = true ↔ (u ++ [47]) <+: s := by
  unfold below2
  rw [prefix_slash]
  constructor
  · intro h
    simp at h
    obtain ⟨⟨r, rfl⟩, h2⟩ := h
    rw [List.getElem?_append_right (Nat.le_refl _), Nat.sub_self] at h2
    cases r with
    | nil => simp at h2
    | cons a r => simp at h2; subst h2; simp
  · rintro ⟨r, rfl⟩
    simp
theorem made_root {ws : List (List UInt8)} (h : ∀ w ∈ ws, Wd w) : madeL ws = [47] ↔ ws = [] := by
  constructor
  · intro e
    cases ws with
    | nil => rfl
    | cons a l =>
      unfold madeL at e
      rw [if_neg (by simp)] at e
      simp [bodyL] at e
      exact absurd e.1 (h a (by simp)).2
  · rintro rfl; rfl
theorem pieces_app (p l : List UInt8) (h : (47 : UInt8) ∉ p) : pieces (p ++ 47 :: l) = p :: pieces l := by
  have := pieces_at (p ++ 47 :: l) p.length (by simpa using h) (by simp)
  simpa using this
theorem pieces_body : ∀ (v : List UInt8) (vs : List (List UInt8)), (47 : UInt8) ∉ v → (∀ w ∈ vs, Wd w) → pieces (v ++ bodyL vs) = v :: vs
  | v, [], hv, _ => by simp [bodyL]; exact pieces_none v hv
  | v, w :: ws, hv, h => by
    have e : v ++ bodyL (w :: ws) = v ++ 47 :: (w ++ bodyL ws) := by simp [bodyL]
    rw [e, pieces_app v _ hv, pieces_body w ws (h w (by simp)).1 (fun x hx => h x (by simp [hx]))]
theorem check_made {ws : List (List UInt8)} (h : ∀ w ∈ ws, Wd w) (hp : ∀ w ∈ ws, partL w = true) (hl : (madeL ws).length ≤ 60) : checkL (madeL ws) = true := by
  cases ws with
  | nil => decide
  | cons a l =>
    have e : madeL (a :: l) = 47 :: (a ++ bodyL l) := by unfold madeL; rw [if_neg (by simp)]; simp [bodyL]
    rw [e] at hl ⊢
    rw [checkL_on (by simp; intro e; exact absurd e (h a (by simp)).2) hl, pieces_body a l (h a (by simp)).1 (fun x hx => h x (by simp [hx]))]
    simp; exact ⟨hp a (by simp), fun w hw => hp w (by simp [hw])⟩
theorem below_made {ws vs : List (List UInt8)} (hw : ∀ w ∈ ws, Wd w) (hv : ∀ w ∈ vs, Wd w) (hp : ∀ w ∈ ws, partL w = true) (hl : (madeL ws).length ≤ 60) : belowL (madeL ws) (madeL vs) = inB ws vs := by
  unfold belowL
  by_cases h0 : vs = []
  · subst h0
    rw [if_pos (show madeL [] = [47] from rfl), check_made hw hp hl]
    rw [Bool.eq_iff_iff, inB_iff]
    simp [made_root hw]
    cases ws <;> simp
  · have hne : madeL vs ≠ [47] := fun e => h0 ((made_root hv).1 e)
    rw [if_neg hne, Bool.eq_iff_iff, inB_iff, below2_iff]
    have e : madeL vs = bodyL vs := by unfold madeL; rw [if_neg h0]
    rw [e, ← body_prefix vs ws hv hw]
    by_cases h1 : ws = []
    · subst h1
      have : madeL [] = [47] := rfl
      rw [this]
      cases vs with
      | nil => exact absurd rfl h0
      | cons a l =>
        have := (hv a (by simp)).2
        simp [bodyL]
    · have e2 : madeL ws = bodyL ws := by unfold madeL; rw [if_neg h1]
      rw [e2]
theorem inB_trans {a b c : List (List UInt8)} (h1 : inB a b = true) (h2 : inB b c = true) : inB a c = true := by
  rw [inB_iff] at *
  exact ⟨h2.1.trans h1.1, by omega⟩
theorem inB_anti {a b : List (List UInt8)} (h1 : inB a b = true) : inB b a = false := by
  cases h : inB b a
  · rfl
  · rw [inB_iff] at *; omega
theorem inB_irr (a : List (List UInt8)) : inB a a = false := by
  cases h : inB a a
  · rfl
  · rw [inB_iff] at h; omega
theorem wsOf_wd (ns : List Int) : ∀ w ∈ wsOf ns, Wd w := by
  intro w hw
  unfold wsOf at hw
  obtain ⟨n, _, rfl⟩ := List.mem_map.1 hw
  exact ⟨word_noslash _, fun e => by have := (word_len (n % 18446744073709551616)).1; unfold wordU at e; rw [e] at this; simp at this⟩
theorem wsOf_part (ns : List Int) : ∀ w ∈ wsOf ns, partL w = true := by
  intro w hw
  unfold wsOf at hw
  obtain ⟨n, _, rfl⟩ := List.mem_map.1 hw
  exact partL_word _
theorem below_wsOf (a b : List Int) (ha : a.length ≤ 12) : belowL (madeL (wsOf a)) (madeL (wsOf b)) = inB (wsOf a) (wsOf b) :=
  below_made (wsOf_wd a) (wsOf_wd b) (wsOf_part a) (by have := made_len a; omega)
theorem root_wsOf (a : List Int) : madeL (wsOf a) = [47] ↔ a = [] := by
  rw [made_root (wsOf_wd a)]; simp [wsOf]
end
end Go.Proofs.YtblcpihfnpgfiaaGreatDoor
