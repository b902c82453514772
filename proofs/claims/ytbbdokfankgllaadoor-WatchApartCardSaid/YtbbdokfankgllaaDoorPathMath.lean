/- Plain mathematics of paths: parts, pieces between slashes, numbers behind a path. No conditions beyond those in each statement. -/
import Derived.Lib.Bytealg
import Derived.Lib.Strings
import Derived.Lib.LastIndexByte
namespace Go.Proofs.YtbbdokfankgllaaDoor

/-- May this byte stand in a part. -/
def okI (n : Int) : Bool := decide ((97 ≤ n ∧ n ≤ 122) ∨ (48 ≤ n ∧ n ≤ 57) ∨ n = 45)
def okU (c : UInt8) : Bool := okI (c.toNat : Int)
theorem okU_slash : okU 47 = false := by decide
/-- Is this text a part. -/
def partL (l : List UInt8) : Bool := l.all okU && (decide (1 ≤ l.length) && decide (l.length ≤ 20))
/-- The pieces between slashes. -/
def pieces : List UInt8 → List (List UInt8)
  | [] => [[]]
  | c :: l => if c = 47 then [] :: pieces l else match pieces l with
    | [] => [[c]]
    | p :: ps => (c :: p) :: ps
theorem pieces_ne (l : List UInt8) : pieces l ≠ [] := by
  cases l with
  | nil => simp [pieces]
  | cons c l => unfold pieces; split <;> (try split) <;> simp
theorem pieces_cons {c : UInt8} (h : c ≠ 47) (l : List UInt8) : ∃ p ps, pieces l = p :: ps ∧ pieces (c :: l) = (c :: p) :: ps := by
  cases hp : pieces l with
  | nil => exact absurd hp (pieces_ne l)
  | cons p ps => exact ⟨p, ps, rfl, by simp [pieces, h, hp]⟩
theorem pieces_none : ∀ l : List UInt8, (47 : UInt8) ∉ l → pieces l = [l]
  | [], _ => rfl
  | c :: l, h => by
    have hc : c ≠ 47 := fun e => h (by simp [e])
    have := pieces_none l (fun e => h (by simp [e]))
    simp [pieces, hc, this]
theorem pieces_at : ∀ (l : List UInt8) (i : Nat), (47 : UInt8) ∉ l.take i → l[i]? = some 47 → pieces l = l.take i :: pieces (l.drop (i + 1))
  | [], _, _, h => by simp at h
  | c :: l, 0, _, h => by
    obtain rfl : c = 47 := by simpa using h
    simp [pieces]
  | c :: l, i + 1, hn, h => by
    have hc : c ≠ 47 := fun e => hn (by simp [e])
    have := pieces_at l i (fun e => hn (by simp [e])) (by simpa using h)
    simp [pieces, hc, this]
theorem index_none : ∀ l : List UInt8, Lib.indexByte l 47 < 0 → (47 : UInt8) ∉ l ∧ Lib.indexByte l 47 = -1
  | [], _ => by simp [Lib.indexByte]
  | c :: l, h => by
    unfold Lib.indexByte at h ⊢
    by_cases hc : c = 47
    · subst hc; simp at h
    · have hb : (c == 47) = false := by simpa using hc
      simp only [hb] at h ⊢
      by_cases h2 : Lib.indexByte l 47 < 0
      · have := index_none l h2
        simp [this.2, this.1, Ne.symm hc]
      · have h3 : (Lib.indexByte l 47 == -1) = false := by simp; omega
        simp [h3] at h
        omega
theorem index_some : ∀ l : List UInt8, 0 ≤ Lib.indexByte l 47 → ∃ i : Nat, Lib.indexByte l 47 = i ∧ i < l.length ∧ (47 : UInt8) ∉ l.take i ∧ l[i]? = some 47
  | [], h => by simp [Lib.indexByte] at h
  | c :: l, h => by
    unfold Lib.indexByte at h ⊢
    by_cases hc : c = 47
    · subst hc; exact ⟨0, by simp⟩
    · have hb : (c == 47) = false := by simpa using hc
      simp only [hb] at h ⊢
      by_cases h2 : Lib.indexByte l 47 < 0
      · have := index_none l h2
        simp [this.2] at h
      · have h3 : (Lib.indexByte l 47 == -1) = false := by simp; omega
        obtain ⟨i, e, hi, hn, hs⟩ := index_some l (by omega)
        exact ⟨i + 1, by simp [e], by simp; omega, by simp [Ne.symm hc, hn], by simpa using hs⟩
/-- What Check answers, as a Bool. -/
def checkL (l : List UInt8) : Bool := decide (l = [47]) || (decide (l.head? = some 47) && (decide (l.length ≤ 60) && (pieces (l.drop 1)).all partL))
/-- The law's loop: the text gathered so far, and the rest. -/
def run8 : List UInt8 → List UInt8 → Bool
  | p, [] => partL p
  | p, c :: l => if c = 47 then partL p && run8 [] l else run8 (p ++ [c]) l
theorem run8_pieces : ∀ (l p : List UInt8) (q : List UInt8) (qs : List (List UInt8)), pieces l = q :: qs → run8 p l = (partL (p ++ q) && qs.all partL)
  | [], p, q, qs, h => by
    simp [pieces] at h
    obtain ⟨rfl, rfl⟩ := h
    simp [run8]
  | c :: l, p, q, qs, h => by
    by_cases hc : c = 47
    · subst hc
      simp [pieces] at h
      obtain ⟨rfl, rfl⟩ := h
      cases hp : pieces l with
      | nil => exact absurd hp (pieces_ne l)
      | cons r rs => simp [run8, run8_pieces l [] r rs hp]
    · obtain ⟨r, rs, h1, h2⟩ := pieces_cons hc l
      rw [h2] at h
      simp at h
      obtain ⟨rfl, rfl⟩ := h
      simp [run8, hc, run8_pieces l (p ++ [c]) r rs h1]
theorem run8_all (l : List UInt8) : run8 [] l = (pieces l).all partL := by
  cases hp : pieces l with
  | nil => exact absurd hp (pieces_ne l)
  | cons q qs => rw [run8_pieces l [] q qs hp]; simp

/-- The words of which Made makes paths. -/
def wordI (n : Int) : List UInt8 := if n % 5 = 0 then [97] else if n % 5 = 1 then [98] else if n % 5 = 2 then [99] else if n % 5 = 3 then [110, 49] else [120, 45, 121]
theorem partL_word (n : Int) : partL (wordI n) = true := by
  unfold wordI; split <;> (try split) <;> (try split) <;> (try split) <;> decide
theorem word_noslash (n : Int) : (47 : UInt8) ∉ wordI n := by
  unfold wordI; split <;> (try split) <;> (try split) <;> (try split) <;> decide
theorem word_len (n : Int) : 1 ≤ (wordI n).length ∧ (wordI n).length ≤ 3 := by
  unfold wordI; split <;> (try split) <;> (try split) <;> (try split) <;> decide
def bodyL (ws : List (List UInt8)) : List UInt8 := ws.flatMap (fun p => 47 :: p)
def madeL (ws : List (List UInt8)) : List UInt8 := if ws = [] then [47] else bodyL ws
end Go.Proofs.YtbbdokfankgllaaDoor
