/- A reader of package pith in memory: one block of two cells, the rest of the text and whether there was an error; what the reader's methods do to it. No conditions beyond those in each statement. Plain facts on lists of bytes as big-endian numbers, and on byte strings. No program; no conditions beyond those in each statement. The reader's methods that read: number, Num, Text, Flag. strings.Clone, and the reader's exported methods Num, Text and Flag. Package pith's encoders: extend, bigEndian; what they append as plain lists of bytes. Package pith's bigEndian, Num, Text and Flag. Package pith's Num, Text and Flag. Package pith's Text and Flag. Plain facts on big-endian bytes: what is read is what was laid, and their order is the numbers' order. No program. What was encoded is read: numbers, texts. No conditions beyond those in each statement. -/
import Derived.Test.YtblcpihfnpgfiaaGreatDoorRows
import Derived.WalkKit
import Derived.WalkSpells
import Derived.WalkLawsBesides
import Derived.Lib.Hide
import Derived.OneCell
import Derived.Lib.Strings
import Derived.Lib.Walk
import Derived.Lib.BufferWrite
import Derived.Lib.UnsafeStr
import Derived.Lib.AppendStr
namespace Go.Proofs.YtblcpihfnpgfiaaGreatDoor
section
open Go.RowKit
set_option linter.unusedVariables false

/-- The reader's block. -/
def RdB (w : World) (b : Nat) (rest : ByteArray) (f : Bool) : Prop := w.heap[b]? = some (.cells #[.string rest, .bool f] 88 (0, 0))

theorem RdB.c0 {w : World} {b : Nat} {rest : ByteArray} {f : Bool} (h : RdB w b rest f) : w.cell? ⟨b, 0, none⟩ = some (.string rest) := by unfold RdB at h; simp [World.cell?, h]
theorem RdB.c1 {w : World} {b : Nat} {rest : ByteArray} {f : Bool} (h : RdB w b rest f) : w.cell? ⟨b, 1, none⟩ = some (.bool f) := by unfold RdB at h; simp [World.cell?, h]
theorem RdB.f0 {w : World} {b : Nat} {rest : ByteArray} {f : Bool} (h : RdB w b rest f) : w.frozen? ⟨b, 0, none⟩ = false := by unfold RdB at h; simp [World.frozen?, h]
theorem RdB.f1 {w : World} {b : Nat} {rest : ByteArray} {f : Bool} (h : RdB w b rest f) : w.frozen? ⟨b, 1, none⟩ = false := by unfold RdB at h; simp [World.frozen?, h]
theorem RdB.lt {w : World} {b : Nat} {rest : ByteArray} {f : Bool} (h : RdB w b rest f) : b < w.heap.size := lt_of_block h

theorem block_setCell {w : World} {b i : Nat} {vs : Array Value} {u : Value} {t : TypeId} {m : Nat × Nat} (h : w.heap[b]? = some (.cells vs t m)) :
    (w.setCell ⟨b, i, none⟩ u).heap[b]? = some (.cells (vs.setIfInBounds i u) t m) := by
  have hlt := lt_of_block h
  have h' : w.heap[b] = .cells vs t m := by simpa [Array.getElem?_eq_getElem hlt] using h
  show (w.heap.modify b _)[b]? = _
  rw [Array.getElem?_eq_getElem (by simpa using hlt), Array.getElem_modify_self, h']
  rfl
theorem RdB.set0 {w : World} {b : Nat} {rest r' : ByteArray} {f : Bool} (h : RdB w b rest f) : RdB (w.setCell ⟨b, 0, none⟩ (.string r')) b r' f := block_setCell h
theorem RdB.set1 {w : World} {b : Nat} {rest : ByteArray} {f f' : Bool} (h : RdB w b rest f) : RdB (w.setCell ⟨b, 1, none⟩ (.bool f')) b rest f' := block_setCell h
theorem RdB.drew {w : World} {b : Nat} {rest : ByteArray} {f : Bool} (h : RdB w b rest f) : RdB w.drew b rest f := h

theorem only_refl (a : World) (row : Option Nat) : a.grownBy a row := ⟨rfl, rfl, rfl, Nat.le_refl _, fun _ _ _ => rfl⟩
theorem only_drew {a w : World} {row : Option Nat} (h : a.grownBy w row) : a.grownBy w.drew row := ⟨h.os, h.tape, h.output, h.size, h.block⟩
theorem only_alloc {a w : World} {row : Option Nat} (h : a.grownBy w row) (o : Obj) : a.grownBy (w.alloc o) row :=
  ⟨h.os, h.tape, h.output, Nat.le_trans h.size (by simp), fun i hi hne => (Below.heap_alloc w o i (Nat.lt_of_lt_of_le hi h.size)).trans (h.block i hi hne)⟩
theorem only_setCell {a w : World} {g : Nat} (h : a.grownBy w (some g)) {p : Addr} (hp : p.block = g ∨ a.heap.size ≤ p.block) (u : Value) : a.grownBy (w.setCell p u) (some g) :=
  ⟨h.os, h.tape, h.output, by simpa [World.setCell] using h.size, fun i hi hne => (Below.heap_setCell w p u i (by
    rintro rfl
    rcases hp with hp | hp
    · exact hne (by rw [hp])
    · omega)).trans (h.block i hi hne)⟩
theorem only_of_below {a w : World} (h : Below a.heap.size a w) (row : Option Nat) : a.grownBy w row := ⟨h.os, h.tape, h.output, h.size, fun i hi _ => h.block i hi⟩
theorem only_trans {a w x : World} {row : Option Nat} (h : a.grownBy w row) (k : w.grownBy x row) : a.grownBy x row :=
  ⟨k.os.trans h.os, k.tape.trans h.tape, k.output.trans h.output, Nat.le_trans h.size k.size, fun i hi hne => (k.block i (Nat.lt_of_lt_of_le hi h.size) hne).trans (h.block i hi hne)⟩

theorem ok_any (b : Nat) (rest : ByteArray) (f : Bool) (w : World) (h : RdB w b rest f) :
    Calls Tryz.prog 27 #[.pointer (some ⟨b, 0, none⟩)] w fun e w' => e = .returned (.bool (!f)) ∧ w = w' := by
  have c1 := h.c1
  go_enter Tryz.func27, Tryz.ntmps27
  go_wp2
  go_ret
  exact ⟨rfl, rfl⟩

theorem ok_nil (w : World) :
    Calls Tryz.prog 27 #[.pointer none] w fun e w' => e = .returned (.bool false) ∧ w = w' := by
  go_enter Tryz.func27, Tryz.ntmps27
  go_wp2
  go_ret
  exact ⟨rfl, rfl⟩

theorem fail_block {w : World} {b : Nat} {rest : ByteArray} {f : Bool} (h : RdB w b rest f) : RdB ((w.setCell ⟨b, 0, none⟩ (.string ⟨#[]⟩)).setCell ⟨b, 1, none⟩ (.bool true)) b ⟨#[]⟩ true :=
  RdB.set1 (RdB.set0 h)
theorem only_set1 (b i : Nat) (w : World) (u : Value) : w.grownBy (w.setCell ⟨b, i, none⟩ u) (some b) :=
  only_setCell (p := ⟨b, i, none⟩) (only_refl w (some b)) (.inl rfl) u
theorem fail_only (b : Nat) (w : World) : w.grownBy ((w.setCell ⟨b, 0, none⟩ (.string ⟨#[]⟩)).setCell ⟨b, 1, none⟩ (.bool true)) (some b) :=
  only_trans (only_set1 b 0 w _) (only_set1 b 1 _ _)
theorem fail_any (b : Nat) (rest : ByteArray) (f : Bool) (w : World) (h : RdB w b rest f) :
    Calls Tryz.prog 50 #[.pointer (some ⟨b, 0, none⟩)] w fun e w' => e = .returned (.tuple #[]) ∧ RdB w' b ⟨#[]⟩ true ∧ w.grownBy w' (some b) := by
  have c0 := h.c0
  have c1 := h.c1
  have f0 := h.f0
  have f1 := h.f1
  go_enter Tryz.func50, Tryz.ntmps50
  go_wp2
  go_end0
  exact ⟨rfl, fail_block h, fail_only b w⟩

theorem fail_nil (w : World) :
    Calls Tryz.prog 50 #[.pointer none] w fun e w' => e = .returned (.tuple #[]) ∧ w = w' := by
  go_enter Tryz.func50, Tryz.ntmps50
  go_wp2
  go_end0
  exact ⟨rfl, rfl⟩

/-- 'take(n)' of a reader without an error that has so many bytes. -/
theorem take_ok (b : Nat) (rest : ByteArray) (n : Nat) (w : World) (h : RdB w b rest false) (hn : n ≤ rest.size) (hm : rest.size ≤ maxLen) :
    Calls Tryz.prog 85 #[.pointer (some ⟨b, 0, none⟩), .int .i64 n] w fun e w' => e = .returned (.string (rest.extract 0 n)) ∧ RdB w' b (rest.extract n rest.size) false ∧ w.grownBy w' (some b) := by
  have c0 := h.c0
  have c1 := h.c1
  have f0 := h.f0
  have hd : decide ((rest.size : Int) < (n : Int)) = false := by simp; omega
  unfold maxLen at hm
  go_enter Tryz.func85, Tryz.ntmps85
  go_wp2_with (go_at_call 27; refine (ok_any b rest false _ h).mono ?_; rintro e w' ⟨rfl, rfl⟩)
  go_ret
  exact ⟨rfl, RdB.set0 h, only_set1 b 0 w _⟩

/-- 'take(n)' of a reader with an error, or with fewer bytes. -/
theorem take_bad (b : Nat) (rest : ByteArray) (f : Bool) (n : Int) (w : World) (h : RdB w b rest f) (hn : f = true ∨ (rest.size : Int) < n) (hm : rest.size ≤ maxLen) :
    Calls Tryz.prog 85 #[.pointer (some ⟨b, 0, none⟩), .int .i64 n] w fun e w' => e = .returned (.string ⟨#[]⟩) ∧ RdB w' b ⟨#[]⟩ true ∧ w.grownBy w' (some b) := by
  have c0 := h.c0
  have c1 := h.c1
  unfold maxLen at hm
  cases f with
  | true =>
    clear hn
    go_enter Tryz.func85, Tryz.ntmps85
    go_wp2_with (first
      | (go_at_call 27; refine (ok_any b rest true _ h).mono ?_; rintro e w' ⟨rfl, rfl⟩)
      | (go_at_call 50; refine (fail_any b rest true _ h).mono ?_; rintro e w' ⟨rfl, hr, hg⟩))
    go_ret
    exact ⟨rfl, hr, hg⟩
  | false =>
    have hlt : (rest.size : Int) < n := by simpa using hn
    have hd : decide ((rest.size : Int) < n) = true := by simp; omega
    clear hn
    go_enter Tryz.func85, Tryz.ntmps85
    go_wp2_with (first
      | (go_at_call 27; refine (ok_any b rest false _ h).mono ?_; rintro e w' ⟨rfl, rfl⟩)
      | (go_at_call 50; refine (fail_any b rest false _ h).mono ?_; rintro e w' ⟨rfl, hr, hg⟩))
    go_ret
    exact ⟨rfl, hr, hg⟩

theorem take_nil (n : Int) (w : World) :
    Calls Tryz.prog 85 #[.pointer none, .int .i64 n] w fun e w' => e = .returned (.string ⟨#[]⟩) ∧ w = w' := by
  go_enter Tryz.func85, Tryz.ntmps85
  go_wp2_with (first
    | (go_at_call 27; refine (ok_nil _).mono ?_; rintro e w' ⟨rfl, rfl⟩)
    | (go_at_call 50; refine (fail_nil _).mono ?_; rintro e w' ⟨rfl, rfl⟩))
  go_ret
  exact ⟨rfl, rfl⟩

theorem empty_false {s : ByteArray} (h : ¬ s.size = 0) : s.toList.isEmpty = false := by
  rw [Bool.eq_false_iff]
  intro e
  rw [List.isEmpty_iff, ByteArray.toList_eq] at e
  apply h
  show s.data.size = 0
  rw [← Array.length_toList, e]
  rfl
/-- What Done answers. -/
def doneV (f : Bool) (n : Nat) : Int := if f = true ∨ n ≠ 0 then 2 else 0
theorem done_any (b : Nat) (rest : ByteArray) (f : Bool) (w : World) (h : RdB w b rest f) :
    Calls Tryz.prog 26 #[.pointer (some ⟨b, 0, none⟩)] w fun e w' => e = .returned (.int .i64 (doneV f rest.size)) ∧ w = w' := by
  have c0 := h.c0
  cases f with
  | true =>
    go_enter Tryz.func26, Tryz.ntmps26
    go_wp2_with (go_at_call 27; refine (ok_any b rest true _ h).mono ?_; rintro e w' ⟨rfl, rfl⟩)
    go_ret
    exact ⟨by simp [doneV], rfl⟩
  | false =>
    by_cases hz : rest.size = 0
    · obtain rfl : rest = ⟨#[]⟩ := ByteArray.ext (Array.eq_empty_of_size_eq_zero hz)
      clear hz
      go_enter Tryz.func26, Tryz.ntmps26
      go_wp2_with (go_at_call 27; refine (ok_any b _ false _ h).mono ?_; rintro e w' ⟨rfl, rfl⟩)
      go_ret
      exact ⟨by rw [show doneV false (ByteArray.size ⟨#[]⟩) = 0 from rfl]; rfl, rfl⟩
    · have he := empty_false hz
      go_enter Tryz.func26, Tryz.ntmps26
      go_wp2_with (go_at_call 27; refine (ok_any b _ false _ h).mono ?_; rintro e w' ⟨rfl, rfl⟩)
      go_ret
      exact ⟨by simp [doneV, hz], rfl⟩

theorem done_nil (w : World) :
    Calls Tryz.prog 26 #[.pointer none] w fun e w' => e = .returned (.int .i64 2) ∧ w = w' := by
  go_enter Tryz.func26, Tryz.ntmps26
  go_wp2_with (go_at_call 27; refine (ok_nil _).mono ?_; rintro e w' ⟨rfl, rfl⟩)
  go_ret
  exact ⟨rfl, rfl⟩

theorem read_any (s : ByteArray) (w : World) :
    Calls Tryz.prog 24 #[.string s] w fun e w' => e = .returned (.pointer (some ⟨w.heap.size, 0, none⟩)) ∧ RdB w' w.heap.size s false ∧ Below w.heap.size w w' ∧ w'.heap.size = w.heap.size + 1 := by
  go_enter Tryz.func24, Tryz.ntmps24
  go_wp2
  go_ret
  exact ⟨rfl, heap_alloc_new _ _, (Below.refl _ _).alloc (Nat.le_refl _) _, by simp⟩
end
section
set_option linter.unusedVariables false

/-- A list of bytes as a number, the highest first. -/
def val (l : List UInt8) : Nat := l.foldl (fun a c => a * 256 + c.toNat) 0

theorem val_nil : val [] = 0 := rfl
theorem val_snoc (l : List UInt8) (c : UInt8) : val (l ++ [c]) = val l * 256 + c.toNat := by simp [val, List.foldl_append]
theorem val_from (l : List UInt8) : ∀ a : Nat, l.foldl (fun a c => a * 256 + c.toNat) a < (a + 1) * 256 ^ l.length := by
  induction l with
  | nil => intro a; simp
  | cons c l ih =>
    intro a
    refine Nat.lt_of_lt_of_le (ih (a * 256 + c.toNat)) ?_
    rw [List.length_cons, Nat.pow_succ, Nat.mul_comm (256 ^ l.length) 256, ← Nat.mul_assoc]
    exact Nat.mul_le_mul_right _ (by have := c.toNat_lt; omega)
theorem val_lt (l : List UInt8) : val l < 256 ^ l.length := by have := val_from l 0; simpa [val] using this

theorem take_snoc (s : ByteArray) (k : Nat) (h : k < s.size) : s.data.toList.take (k + 1) = s.data.toList.take k ++ [s[k]] := by
  rw [List.take_succ_eq_append_getElem (by simpa using h)]; rfl
theorem take_all (s : ByteArray) : s.data.toList.take s.size = s.data.toList := List.take_of_length_le (by simp)
theorem val_take_lt (s : ByteArray) (k n : Nat) (h : k ≤ n) : val (s.data.toList.take k) < 256 ^ n :=
  Nat.lt_of_lt_of_le (val_lt _) (Nat.pow_le_pow_right (by omega) (Nat.le_trans (List.length_take_le _ _) h))
end
section
open Go.RowKit
set_option linter.unusedVariables false

theorem i64_or8 (x y : Int) (h0 : 0 ≤ x) (h : x % 256 = 0) (h1 : x < 2 ^ 62) (h2 : 0 ≤ y) (h3 : y < 256) : bits .or .i64 x y = x + y :=
  bits_join .i64 62 (by decide) (fun n a b => IntWalk.i64_in n (by omega)) 8 x y h0 h h1 h2 h3 (by omega)
theorem val_round (s : ByteArray) (k : Nat) (h : k < s.size) (h6 : s.size ≤ 6) :
    bits BinOp.or IntKind.i64 ((val (s.data.toList.take k) : Int) * 256) (wrap64 (s[k].toNat : Int)) = (val (s.data.toList.take (k + 1)) : Int) := by
  have hb := val_take_lt s k 5 (by omega)
  have hc := s[k].toNat_lt
  rw [take_snoc s k h, val_snoc, IntWalk.wrap64_in _ (by omega), i64_or8 _ _ (by omega) (by omega) (by omega) (by omega) (by omega)]
  omega

set_option maxHeartbeats 400000 in
theorem number_ok (b : Nat) (rest : ByteArray) (n : Nat) (most : Int) (w : World) (h : RdB w b rest false) (hn : n ≤ rest.size) (h6 : n ≤ 6) (hm : rest.size ≤ maxLen)
    (hv : (val (rest.data.toList.take n) : Int) ≤ most) :
    Calls Tryz.prog 64 #[.pointer (some ⟨b, 0, none⟩), .int .i64 n, .int .i64 most] w fun e w' => e = .returned (.int .i64 (val (rest.data.toList.take n))) ∧ RdB w' b (rest.extract n rest.size) false ∧ w.grownBy w' (some b) := by
  obtain ⟨s, hs⟩ : ∃ s, s = rest.extract 0 n := ⟨_, rfl⟩
  have hxl : s.data.toList = rest.data.toList.take n := by rw [hs, Lib.extract_data]; simp
  have hs6 : s.size ≤ 6 := by rw [hs]; simp; omega
  rw [← hxl] at hv ⊢
  clear hxl
  obtain ⟨V, hV⟩ : ∃ V, V = val s.data.toList := ⟨_, rfl⟩
  rw [← hV] at hv ⊢
  have HS := Lib.hid hs
  have HV := Lib.hid hV
  clear hs hV
  go_enter Tryz.func64, Tryz.ntmps64
  go_wp2_with fail
  refine (take_ok b rest n _ h hn hm).mono ?_
  rintro e w' ⟨rfl, hr, hg⟩
  rw [← HS.out]
  go_wp2_with fail
  go_loop [8, 15] (fun v i => ∃ k : Nat, k ≤ s.size ∧ i = .int .i64 k ∧ v = .int .i64 (val (s.data.toList.take k))) (fun _ i => s.size - (intOf i).toNat)
  case atStart => exact ⟨0, Nat.zero_le _, rfl, rfl⟩
  case round =>
    obtain ⟨k, hk, rfl, rfl⟩ := hrel
    by_cases hlt : k < s.size
    · have hb := val_take_lt s k 5 (by omega)
      have HR := Lib.hid (val_round s k hlt hs6)
      go_wp2_with fail
      go_round
      case rel => exact ⟨k + 1, by omega, by go_num, by rw [HR.out]⟩
      case measure => simp [intOf]; omega
    · have e : val (s.data.toList.take k) = V := by rw [HV.out, show k = s.size by omega, take_all]
      rw [e]
      have hd : decide (most < (V : Int)) = false := by simp; omega
      go_wp2_with fail
      go_ret
      exact ⟨rfl, hr, hg⟩

set_option maxHeartbeats 400000 in
/-- Above 'most': an error. -/
theorem number_above (b : Nat) (rest : ByteArray) (n : Nat) (most : Int) (w : World) (h : RdB w b rest false) (hn : n ≤ rest.size) (h6 : n ≤ 6) (hm : rest.size ≤ maxLen)
    (hv : most < (val (rest.data.toList.take n) : Int)) :
    Calls Tryz.prog 64 #[.pointer (some ⟨b, 0, none⟩), .int .i64 n, .int .i64 most] w fun e w' => e = .returned (.int .i64 0) ∧ RdB w' b ⟨#[]⟩ true ∧ w.grownBy w' (some b) := by
  obtain ⟨s, hs⟩ : ∃ s, s = rest.extract 0 n := ⟨_, rfl⟩
  have hxl : s.data.toList = rest.data.toList.take n := by rw [hs, Lib.extract_data]; simp
  have hs6 : s.size ≤ 6 := by rw [hs]; simp; omega
  rw [← hxl] at hv
  clear hxl
  obtain ⟨V, hV⟩ : ∃ V, V = val s.data.toList := ⟨_, rfl⟩
  rw [← hV] at hv
  have HS := Lib.hid hs
  have HV := Lib.hid hV
  clear hs hV
  go_enter Tryz.func64, Tryz.ntmps64
  go_wp2_with fail
  refine (take_ok b rest n _ h hn hm).mono ?_
  rintro e w' ⟨rfl, hr, hg⟩
  rw [← HS.out]
  go_wp2_with fail
  go_loop [8, 15] (fun v i => ∃ k : Nat, k ≤ s.size ∧ i = .int .i64 k ∧ v = .int .i64 (val (s.data.toList.take k))) (fun _ i => s.size - (intOf i).toNat)
  case atStart => exact ⟨0, Nat.zero_le _, rfl, rfl⟩
  case round =>
    obtain ⟨k, hk, rfl, rfl⟩ := hrel
    by_cases hlt : k < s.size
    · have hb := val_take_lt s k 5 (by omega)
      have HR := Lib.hid (val_round s k hlt hs6)
      go_wp2_with fail
      go_round
      case rel => exact ⟨k + 1, by omega, by go_num, by rw [HR.out]⟩
      case measure => simp [intOf]; omega
    · have e : val (s.data.toList.take k) = V := by rw [HV.out, show k = s.size by omega, take_all]
      rw [e]
      have hd : decide (most < (V : Int)) = true := by simp; omega
      go_wp2_with (go_at_call 50; refine (fail_any b _ false _ hr).mono ?_; rintro e w'' ⟨rfl, hr2, hg2⟩)
      go_ret
      exact ⟨rfl, hr2, only_trans hg hg2⟩

set_option maxHeartbeats 400000 in
/-- A reader with an error, or with too few bytes. -/
theorem number_bad (b : Nat) (rest : ByteArray) (f : Bool) (n most : Int) (w : World) (h : RdB w b rest f) (hn : f = true ∨ (rest.size : Int) < n) (hm : rest.size ≤ maxLen) :
    Calls Tryz.prog 64 #[.pointer (some ⟨b, 0, none⟩), .int .i64 n, .int .i64 most] w fun e w' => e = .returned (.int .i64 0) ∧ RdB w' b ⟨#[]⟩ true ∧ w.grownBy w' (some b) := by
  have HT := Lib.hid (take_bad b rest f n w h hn hm)
  clear hn
  by_cases hd : most < 0
  · have hdd : decide (most < 0) = true := by simp; omega
    go_enter Tryz.func64, Tryz.ntmps64
    go_wp2_with fail
    refine HT.out.mono ?_
    rintro e w' ⟨rfl, hr, hg⟩
    go_wp2_with fail
    refine wp_loop_rounds 1 ?_
    rw [rounds_succ]
    go_wp2_with (go_at_call 50; refine (fail_any b _ true _ hr).mono ?_; rintro e w'' ⟨rfl, hr2, hg2⟩)
    go_ret
    exact ⟨rfl, hr2, only_trans hg hg2⟩
  · have hdd : decide (most < 0) = false := by simp; omega
    go_enter Tryz.func64, Tryz.ntmps64
    go_wp2_with fail
    refine HT.out.mono ?_
    rintro e w' ⟨rfl, hr, hg⟩
    go_wp2_with fail
    refine wp_loop_rounds 1 ?_
    rw [rounds_succ]
    go_wp2_with fail
    go_ret
    exact ⟨rfl, hr, hg⟩

set_option maxHeartbeats 400000 in
theorem number_nil (n most : Int) (w : World) :
    Calls Tryz.prog 64 #[.pointer none, .int .i64 n, .int .i64 most] w fun e w' => e = .returned (.int .i64 0) ∧ w = w' := by
  by_cases hd : most < 0
  · have hdd : decide (most < 0) = true := by simp; omega
    go_enter Tryz.func64, Tryz.ntmps64
    go_wp2_with fail
    refine (take_nil n _).mono ?_
    rintro e w' ⟨rfl, rfl⟩
    go_wp2_with fail
    refine wp_loop_rounds 1 ?_
    rw [rounds_succ]
    go_wp2_with (go_at_call 50; refine (fail_nil _).mono ?_; rintro e w' ⟨rfl, rfl⟩)
    go_ret
    exact ⟨rfl, rfl⟩
  · have hdd : decide (most < 0) = false := by simp; omega
    go_enter Tryz.func64, Tryz.ntmps64
    go_wp2_with fail
    refine (take_nil n _).mono ?_
    rintro e w' ⟨rfl, rfl⟩
    go_wp2_with fail
    refine wp_loop_rounds 1 ?_
    rw [rounds_succ]
    go_wp2_with fail
    go_ret
    exact ⟨rfl, rfl⟩
end
section
open Go.RowKit
set_option linter.unusedVariables false
set_option maxRecDepth 100000

theorem info_u8 : (Tryz.prog.info? 5).map (fun i => (i.zero, i.size, i.bytes)) = some (some (.int .u8 0), 1, 1) := by kernel_rfl
theorem und_bytes : Tryz.prog.underlying 53 = some (.slice 5) := by kernel_rfl
theorem und_ptr_u8 : Tryz.prog.underlying 137 = some (.pointer 5) := by kernel_rfl

set_option maxHeartbeats 1000000 in
theorem slclone_any (s : ByteArray) (w : World) (hlim : s.size ≤ 281474976710656) :
    Calls Tryz.prog 72 #[.string s] w fun e w' => e = .returned (.string s) ∧ Below w.heap.size w w' := by
  by_cases h0 : s.size = 0
  · obtain rfl : s = ⟨#[]⟩ := ByteArray.ext (Array.eq_empty_of_size_eq_zero h0)
    clear h0
    go_enter Tryz.func72, Tryz.ntmps72
    go_wp2
    go_ret
    exact ⟨rfl, Below.refl _ _⟩
  · obtain ⟨i0, hi, hz0, hz1, hz2⟩ := info_parts info_u8
    have hinfo : (Tryz.prog.info? 5).map (·.size) = some 1 := by rw [hi]; simp [hz1]
    have hco : Tryz.prog.cellsOf 5 = 1 := by simp [Program.cellsOf, hi, hz1]
    obtain ⟨M, hM⟩ : ∃ M, M = madeCells (Value.int .u8 0).cells (((s.size : Nat) : Int).toNat * i0.size) := ⟨_, rfl⟩
    have hMs : M.size = s.size := by rw [hM, size_madeCells, hz1]; simp
    have hmk : ∀ W : World, (Instr.makeSlice 53 (.int .i64 (s.size : Int)) (.int .i64 (s.size : Int))).run Tryz.prog W = .ok (.slice (some ⟨W.heap.size, 0, none⟩) s.size s.size) (W.alloc (.cells M 5)) := fun W => by
      have h := run_make (P := Tryz.prog) W 53 5 i0 (.int .u8 0) und_bytes hi hz0 .i64 .i64 (s.size : Int) (s.size : Int) (by omega) (by omega) (by rw [hz2]; omega) (by omega)
      rw [← hM] at h
      simpa using h
    clear hM
    have hcp := Lib.run_copy_row_string (P := Tryz.prog) (w.alloc (.cells M 5)) 53 9 3 5 w.heap.size 0 s.size s.size s M 5 und_bytes hinfo (heap_alloc_new w _) (Nat.le_refl _) (by omega)
    obtain ⟨Y, hY⟩ : ∃ Y, Y = (M.toList.take 0 ++ Lib.byteCells s.data.toList ++ M.toList.drop (0 + s.size)).toArray := ⟨_, rfl⟩
    rw [← hY] at hcp
    have hYl : Y.toList = Lib.byteCells s.data.toList := by
      rw [hY, List.toList_toArray, List.take_zero, List.nil_append, List.drop_of_length_le (by rw [Array.length_toList]; omega), List.append_nil]
    have hYs : Y.size = s.size := by rw [← Array.length_toList, hYl, Lib.byteCells_length, ← Lib.size_eq]
    have hgY : ((w.alloc (.cells M 5)).setRow w.heap.size Y).heap[w.heap.size]? = some (.cells Y 5 (0, 0)) := setRow_heap _ _ M _ 5 (0, 0) (heap_alloc_new w _)
    have hne : s.data.toList ≠ [] := fun e => h0 (by rw [Lib.size_eq, e]; rfl)
    have hUS := Lib.run_unsafeString_row (P := Tryz.prog) ((w.alloc (.cells M 5)).setRow w.heap.size Y) 137 3 9 5 und_ptr_u8 hco w.heap.size Y.size (by unfold World.shape?; rw [hgY]) s.data.toList hne (by rw [← Lib.size_eq]; omega) (by rw [← Lib.size_eq]; omega)
      (fun j x hx => Lib.cells_of_row hgY Y.size j _ (by rw [List.take_of_length_le (by rw [Array.length_toList]; exact Nat.le_refl _), hYl]; simp [Lib.byteCells, hx]))
    rw [← Lib.size_eq] at hUS
    clear hY
    go_enter Tryz.func72, Tryz.ntmps72
    go_wp2
    go_ret
    have hb1 : Below w.heap.size w (w.alloc (.cells M 5)) := (Below.refl _ w).alloc (Nat.le_refl _) _
    have hb2 : Below w.heap.size (w.alloc (.cells M 5)) ((w.alloc (.cells M 5)).setRow w.heap.size Y) := ⟨rfl, rfl, rfl, by simp, fun k hk => setRow_other _ _ _ _ (by omega)⟩
    exact ⟨rfl, Lib.below_freeze (hb1.trans hb2) (p := ⟨w.heap.size, 0, none⟩) (Nat.le_refl _) _⟩

theorem pclone_any (s : ByteArray) (w : World) (hlim : s.size ≤ 281474976710656) :
    Calls Tryz.prog 57 #[.string s] w fun e w' => e = .returned (.string s) ∧ Below w.heap.size w w' := by
  go_enter Tryz.func57, Tryz.ntmps57
  go_wp2_with (go_at_call 72; refine (slclone_any s _ hlim).mono ?_; rintro e w' ⟨rfl, hb⟩)
  go_ret
  exact ⟨rfl, hb⟩

theorem RdB.below {w w' : World} {b : Nat} {rest : ByteArray} {f : Bool} (h : RdB w b rest f) (k : Below w.heap.size w w') : RdB w' b rest f := (k.block b h.lt).trans h

/-- What a reader stands at: no error and what is left, or an error. -/
abbrev RS := Option (List UInt8)
/-- The reader at block b stands at st. -/
def Rs (w : World) (b : Nat) : RS → Prop
  | none => RdB w b ⟨#[]⟩ true
  | some l => RdB w b ⟨l.toArray⟩ false ∧ l.length ≤ 140737488355328
def okF : RS → Bool
  | none => false
  | some _ => true
def doneF : RS → Int
  | some [] => 0
  | _ => 2
/-- A number of n bytes, at most 'most'. -/
def numF (n : Nat) (most : Int) : RS → Int × RS
  | none => (0, none)
  | some l => if l.length < n ∨ most < (val (l.take n) : Int) then (0, none) else ((val (l.take n) : Int), some (l.drop n))
def takeF (n : Nat) : RS → List UInt8 × RS
  | none => ([], none)
  | some l => if l.length < n then ([], none) else (l.take n, some (l.drop n))
def textF (most : Int) (st : RS) : List UInt8 × RS := takeF (numF 2 most st).1.toNat (numF 2 most st).2
def flagF (st : RS) : Bool × RS := ((numF 1 1 st).1 == 1, (numF 1 1 st).2)

theorem Rs.below {w w' : World} {b : Nat} {st : RS} (h : Rs w b st) (k : Below w.heap.size w w') : Rs w' b st := by
  cases st with
  | none => exact RdB.below h k
  | some l => exact ⟨RdB.below h.1 k, h.2⟩
theorem Rs.lt {w : World} {b : Nat} {st : RS} (h : Rs w b st) : b < w.heap.size := by
  cases st with
  | none => exact RdB.lt h
  | some l => exact RdB.lt h.1
theorem Rs.kept {w w' : World} {b : Nat} {st : RS} {row : Option Nat} (h : Rs w b st) (k : w.grownBy w' row) (hr : some b ≠ row) : Rs w' b st := by
  cases st with
  | none => exact (k.block b h.lt hr).trans h
  | some l => exact ⟨(k.block b h.lt hr).trans h.1, h.2⟩
theorem size_mk (l : List UInt8) : (ByteArray.mk l.toArray).size = l.length := by simp [ByteArray.size]
theorem data_mk (l : List UInt8) : (ByteArray.mk l.toArray).data.toList = l := by simp
theorem mk_data (s : ByteArray) : s = ⟨s.data.toList.toArray⟩ := by simp
theorem extract_mk (l : List UInt8) (a c : Nat) : (ByteArray.mk l.toArray).extract a c = ⟨((l.drop a).take (c - a)).toArray⟩ := by
  rw [mk_data ((ByteArray.mk l.toArray).extract a c), Lib.extract_data]
theorem extract_head (l : List UInt8) (n : Nat) : (ByteArray.mk l.toArray).extract 0 n = ⟨(l.take n).toArray⟩ := by rw [extract_mk]; simp
theorem extract_rest (l : List UInt8) (n : Nat) : (ByteArray.mk l.toArray).extract n (ByteArray.mk l.toArray).size = ⟨(l.drop n).toArray⟩ := by
  rw [extract_mk, size_mk, List.take_of_length_le (by simp)]

theorem numF_lt (n : Nat) (most : Int) (st : RS) : 0 ≤ (numF n most st).1 ∧ (numF n most st).1 < 256 ^ n := by
  cases st with
  | none => exact ⟨Int.le_refl 0, Int.pow_pos (by omega)⟩
  | some l =>
    by_cases hc : l.length < n ∨ most < (val (l.take n) : Int)
    · simp only [numF, hc, if_true]
      exact ⟨Int.le_refl 0, Int.pow_pos (by omega)⟩
    · simp only [numF, hc, if_false]
      have h := val_lt (l.take n)
      have h2 : 256 ^ (l.take n).length ≤ 256 ^ n := Nat.pow_le_pow_right (by omega) (List.length_take_le _ _)
      have h3 : ((256 ^ n : Nat) : Int) = 256 ^ n := by simp
      refine ⟨by simp, ?_⟩
      rw [← h3]
      exact_mod_cast Nat.lt_of_lt_of_le h h2
theorem takeF_len (n : Nat) (st : RS) : (takeF n st).1.length ≤ n := by
  cases st with
  | none => simp [takeF]
  | some l =>
    by_cases hl : l.length < n
    · simp [takeF, hl]
    · simp only [takeF, hl, if_false]
      exact List.length_take_le _ _

theorem ok_rs (b : Nat) (st : RS) (w : World) (h : Rs w b st) :
    Calls Tryz.prog 27 #[.pointer (some ⟨b, 0, none⟩)] w fun e w' => e = .returned (.bool (okF st)) ∧ w = w' := by
  cases st with
  | none => exact ok_any b _ true w h
  | some l => exact ok_any b _ false w h.1

theorem done_rs (b : Nat) (st : RS) (w : World) (h : Rs w b st) :
    Calls Tryz.prog 26 #[.pointer (some ⟨b, 0, none⟩)] w fun e w' => e = .returned (.int .i64 (doneF st)) ∧ w = w' := by
  cases st with
  | none => exact done_any b _ true w h
  | some l =>
    have := done_any b _ false w h.1
    rw [size_mk] at this
    cases l with
    | nil => exact this
    | cons c l => exact this

theorem fail_rs (b : Nat) (st : RS) (w : World) (h : Rs w b st) :
    Calls Tryz.prog 50 #[.pointer (some ⟨b, 0, none⟩)] w fun e w' => e = .returned (.tuple #[]) ∧ Rs w' b none ∧ w.grownBy w' (some b) := by
  cases st with
  | none => exact fail_any b _ true w h
  | some l => exact fail_any b _ false w h.1

theorem take_rs (b n : Nat) (st : RS) (w : World) (h : Rs w b st) :
    Calls Tryz.prog 85 #[.pointer (some ⟨b, 0, none⟩), .int .i64 n] w fun e w' => e = .returned (.string ⟨(takeF n st).1.toArray⟩) ∧ Rs w' b (takeF n st).2 ∧ w.grownBy w' (some b) := by
  cases st with
  | none => exact take_bad b _ true n w h (.inl rfl) (by show 0 ≤ maxLen; unfold maxLen; omega)
  | some l =>
    obtain ⟨h1, h2⟩ := h
    have hm : (ByteArray.mk l.toArray).size ≤ maxLen := by rw [size_mk]; unfold maxLen; omega
    by_cases hl : l.length < n
    · refine (take_bad b _ false n w h1 (.inr (by rw [size_mk]; omega)) hm).mono ?_
      intro e w' hh
      simpa [takeF, hl, Rs] using hh
    · refine (take_ok b _ n w h1 (by rw [size_mk]; omega) hm).mono ?_
      rw [extract_head, extract_rest]
      intro e w' ⟨he, hr, hg⟩
      simp only [takeF, hl, if_false]
      exact ⟨he, ⟨hr, by simp; omega⟩, hg⟩

theorem number_rs (b n : Nat) (most : Int) (st : RS) (w : World) (h : Rs w b st) (h6 : n ≤ 6) :
    Calls Tryz.prog 64 #[.pointer (some ⟨b, 0, none⟩), .int .i64 n, .int .i64 most] w fun e w' => e = .returned (.int .i64 (numF n most st).1) ∧ Rs w' b (numF n most st).2 ∧ w.grownBy w' (some b) := by
  cases st with
  | none => exact number_bad b _ true n most w h (.inl rfl) (by show 0 ≤ maxLen; unfold maxLen; omega)
  | some l =>
    obtain ⟨h1, h2⟩ := h
    have hm : (ByteArray.mk l.toArray).size ≤ maxLen := by rw [size_mk]; unfold maxLen; omega
    by_cases hl : l.length < n
    · refine (number_bad b _ false n most w h1 (.inr (by rw [size_mk]; omega)) hm).mono ?_
      intro e w' hh
      simpa [numF, hl, Rs] using hh
    · by_cases hv : most < (val (l.take n) : Int)
      · refine (number_above b _ n most w h1 (by rw [size_mk]; omega) h6 hm (by rw [data_mk]; exact hv)).mono ?_
        intro e w' hh
        simpa [numF, hv, Rs] using hh
      · refine (number_ok b _ n most w h1 (by rw [size_mk]; omega) h6 hm (by rw [data_mk]; omega)).mono ?_
        rw [data_mk, extract_rest]
        intro e w' ⟨he, hr, hg⟩
        have hn : ¬ (l.length < n ∨ most < (val (l.take n) : Int)) := by omega
        simp only [numF, hn, if_false]
        exact ⟨he, ⟨hr, by simp; omega⟩, hg⟩

set_option maxHeartbeats 400000 in
theorem num_rs (b : Nat) (most : Int) (st : RS) (w : World) (h : Rs w b st) :
    Calls Tryz.prog 47 #[.pointer (some ⟨b, 0, none⟩), .int .i64 most] w fun e w' => e = .returned (.int .i64 (numF 6 (max most 0) st).1) ∧ Rs w' b (numF 6 (max most 0) st).2 ∧ w.grownBy w' (some b) := by
  have H := Lib.hid (number_rs b 6 (max most 0) st w h (by omega))
  go_enter Tryz.func47, Tryz.ntmps47
  go_wp2_with fail
  refine H.out.mono ?_
  rintro e w' ⟨rfl, hr, hg⟩
  go_wp2
  go_ret
  exact ⟨rfl, hr, hg⟩

set_option maxHeartbeats 400000 in
theorem text_rs (b : Nat) (most : Int) (st : RS) (w : World) (h : Rs w b st) :
    Calls Tryz.prog 65 #[.pointer (some ⟨b, 0, none⟩), .int .i64 most] w fun e w' => e = .returned (.string ⟨(textF most st).1.toArray⟩) ∧ Rs w' b (textF most st).2 ∧ w.grownBy w' (some b) := by
  have H := Lib.hid (number_rs b 2 most st w h (by omega))
  have hb := numF_lt 2 most st
  obtain ⟨n, hn⟩ := Int.eq_ofNat_of_zero_le hb.1
  have ht : textF most st = takeF n (numF 2 most st).2 := by unfold textF; rw [hn]; rfl
  rw [ht]
  have hs : (ByteArray.mk (takeF n (numF 2 most st).2).1.toArray).size ≤ 65536 := by
    rw [size_mk]
    have := takeF_len n (numF 2 most st).2
    omega
  rw [hn] at H
  clear ht hb hn
  generalize (numF 2 most st).2 = st2 at *
  have HT := fun (W : World) (hW : Rs W b st2) => take_rs b n st2 W hW
  generalize takeF n st2 = r at *
  generalize ByteArray.mk r.1.toArray = s at *
  have HH := Lib.hid HT
  clear HT
  go_enter Tryz.func65, Tryz.ntmps65
  go_wp2_with fail
  refine H.out.mono ?_
  rintro e w' ⟨rfl, hr, hg⟩
  go_wp2_with fail
  refine (HH.out _ hr).mono ?_
  rintro e w'' ⟨rfl, hr2, hg2⟩
  go_wp2_with fail
  refine (pclone_any s _ (by omega)).mono ?_
  rintro e w3 ⟨rfl, hb3⟩
  go_wp2
  go_ret
  exact ⟨rfl, hr2.below hb3, only_trans (only_trans hg hg2) (only_of_below hb3 _)⟩
end
section
open Go.RowKit
set_option linter.unusedVariables false
set_option maxRecDepth 100000

/-- A list of bytes as cells. -/
def cellsOf (l : List UInt8) : List Value := l.map fun c => Value.int .u8 c.toNat
theorem cellsOf_length (l : List UInt8) : (cellsOf l).length = l.length := by simp [cellsOf]
theorem cellsOf_append (l m : List UInt8) : cellsOf (l ++ m) = cellsOf l ++ cellsOf m := by simp [cellsOf]
theorem cellsOf_nil : cellsOf [] = [] := rfl
theorem cellsOf_one (l : List UInt8) : ∀ v ∈ cellsOf l, v.oneCell' = true := by
  intro v hv
  simp only [cellsOf, List.mem_map] at hv
  obtain ⟨b, _, rfl⟩ := hv
  rfl
theorem cellsOf_str (s : ByteArray) : Lib.strCells s = cellsOf s.data.toList := rfl
/-- The slice value v holds the bytes l, in a row of the call's own from block B on (or nil). -/
def Bs (w : World) (B : Nat) (v : Value) (l : List UInt8) : Prop := w.ownsRow B 5 1 v l.length (cellsOf l)
theorem Bs.nil (w : World) (B : Nat) : Bs w B (.slice none 0 0) [] := World.ownsRow_nil _ _ _ _
theorem Bs.mono {w : World} {B C : Nat} {v : Value} {l : List UInt8} (h : Bs w B v l) (hc : C ≤ B) : Bs w C v l := by
  obtain ⟨h1, h2⟩ := h
  refine ⟨h1, ?_⟩
  rcases h2 with h2 | ⟨g, cap, cur, hv, hg, r⟩
  · exact .inl h2
  · exact .inr ⟨g, cap, cur, hv, by omega, r⟩
theorem Bs.below {w w' : World} {B : Nat} {v : Value} {l : List UInt8} (h : Bs w B v l) (k : Below w.heap.size w w') : Bs w' B v l := by
  obtain ⟨h1, h2⟩ := h
  refine ⟨h1, ?_⟩
  rcases h2 with h2 | ⟨g, cap, cur, hv, hg, hh, r⟩
  · exact .inl h2
  · exact .inr ⟨g, cap, cur, hv, hg, (k.block g (lt_of_block hh)).trans hh, r⟩
theorem Bs.shape {w : World} {B : Nat} {v : Value} {l : List UInt8} (h : Bs w B v l) : ∃ a c, v = .slice a l.length c ∧ l.length ≤ c := by
  obtain ⟨h1, h2⟩ := h
  rcases h2 with ⟨h2, h3⟩ | ⟨g, cap, cur, hv, hg, hh, hc, r⟩
  · exact ⟨none, 0, by rw [h2, h3], by omega⟩
  · exact ⟨_, cap, hv, hc⟩

/-- The slice value v reads as the bytes l (nil, or any row). -/
def Src (w : World) (v : Value) (l : List UInt8) : Prop :=
  ∃ p cap, v = .slice p l.length cap ∧ ((p = none ∧ l = [] ∧ cap = 0) ∨ ∃ a, p = some a ∧ ∀ j x, (cellsOf l)[j]? = some x → w.cell? (Addr.add a j) = some x)
theorem Src.nil (w : World) : Src w (.slice none 0 0) [] := ⟨none, 0, rfl, .inl ⟨rfl, rfl, rfl⟩⟩
theorem Src.below {w w' : World} {v : Value} {l : List UInt8} (h : Src w v l) (k : Below w.heap.size w w') : Src w' v l := by
  obtain ⟨p, cap, hv, h⟩ := h
  refine ⟨p, cap, hv, ?_⟩
  rcases h with h | ⟨a, ha, hc⟩
  · exact .inl h
  · refine .inr ⟨a, ha, fun j x hx => ?_⟩
    have h1 := hc j x hx
    have h2 := World.block_lt_of_cell? w _ h1
    rw [k.cell h2]
    exact h1
theorem Bs.src {w : World} {B : Nat} {v : Value} {l : List UInt8} (h : Bs w B v l) : Src w v l := by
  obtain ⟨h1, h2⟩ := h
  rcases h2 with ⟨rfl, h3⟩ | ⟨g, cap, cur, rfl, hg, hh, hc1, hc2, hc3, hc4⟩
  · obtain rfl : l = [] := List.eq_nil_of_length_eq_zero h3
    exact Src.nil w
  · refine ⟨_, cap, rfl, .inr ⟨_, rfl, fun j x hx => ?_⟩⟩
    have hjl : j < l.length := by
      have := (List.getElem?_eq_some_iff.1 hx).1
      rwa [cellsOf_length] at this
    rw [← hc4] at hx
    rw [List.getElem?_take] at hx
    simp only [Nat.mul_one, hjl, if_true] at hx
    rw [show (Addr.add ⟨g, 0, none⟩ j : Addr) = ⟨g, j, none⟩ by simp [Addr.add]; omega]
    simp only [World.cell?, hh]
    simpa using hx

set_option maxHeartbeats 1000000 in
theorem extend_any (v : Value) (l : List UInt8) (more : Nat) (w : World) (h : Src w v l) (hl : l.length + more ≤ 140737488355328) :
    Calls Tryz.prog 45 #[v, .int .i64 more] w fun e w' => ∃ v', e = .returned v' ∧ Bs w' w.heap.size v' l ∧ Below w.heap.size w w' := by
  obtain ⟨i0, hi, hz0, hz1, hz2⟩ := info_parts info_u8
  have hinfo : (Tryz.prog.info? 5).map (·.size) = some 1 := by rw [hi]; simp [hz1]
  obtain ⟨n, hn⟩ : ∃ n, n = l.length := ⟨_, rfl⟩
  obtain ⟨M, hM⟩ : ∃ M, M = madeCells (Value.int .u8 0).cells (((n + more : Nat) : Int).toNat * i0.size) := ⟨_, rfl⟩
  have hnm : ((n : Int) + (more : Int)).toNat = n + more := by omega
  have hMs : M.size = n + more := by rw [hM, size_madeCells, hz1]; simp [hnm]
  have hmk : ∀ W : World, (Instr.makeSlice 53 (.int .i64 (n : Int)) (.int .i64 ((n : Int) + (more : Int)))).run Tryz.prog W = .ok (.slice (some ⟨W.heap.size, 0, none⟩) n (n + more)) (W.alloc (.cells M 5)) := fun W => by
    have h := run_make (P := Tryz.prog) W 53 5 i0 (.int .u8 0) und_bytes hi hz0 .i64 .i64 (n : Int) ((n : Int) + (more : Int)) (by omega) (by omega) (by rw [hz2]; omega) (by omega)
    rw [show (n : Int) + (more : Int) = ((n + more : Nat) : Int) by omega, ← hM] at h
    rw [show (n : Int) + (more : Int) = ((n + more : Nat) : Int) by omega]
    simpa [hnm] using h
  clear hM hnm
  obtain ⟨p, cap, rfl, h2⟩ := h
  have hfin : ∀ (Y : Array Value), Y.size = n + more → Y.toList.take n = cellsOf l → Bs ((w.alloc (.cells M 5)).setRow w.heap.size Y) w.heap.size (.slice (some ⟨w.heap.size, 0, none⟩) n (n + more)) l := by
    intro Y hY hYl
    refine ⟨by rw [cellsOf_length, Nat.mul_one], .inr ⟨w.heap.size, n + more, Y, by rw [hn], Nat.le_refl _, setRow_heap _ _ M _ 5 (0, 0) (heap_alloc_new w _), by omega, by unfold maxLen; omega, by omega, ?_⟩⟩
    rw [Nat.mul_one, ← hn, hYl]
  have hbel : ∀ Y : Array Value, Below w.heap.size w ((w.alloc (.cells M 5)).setRow w.heap.size Y) := fun Y =>
    ((Below.refl _ w).alloc (Nat.le_refl _) _).trans ⟨rfl, rfl, rfl, by simp, fun k hk => setRow_other _ _ _ _ (by omega)⟩
  rcases h2 with ⟨rfl, rfl, rfl⟩ | ⟨a, rfl, hsrc⟩
  · have hcp := run_copy_nil (P := Tryz.prog) (w.alloc (.cells M 5)) 53 53 3 5 ⟨w.heap.size, 0, none⟩ 0 (0 + more) und_bytes (by rw [hi]; rfl)
    have hn0 : n = 0 := hn
    subst hn0
    have hX : Bs (w.alloc (.cells M 5)) w.heap.size (.slice (some ⟨w.heap.size, 0, none⟩) 0 (0 + more)) [] :=
      ⟨rfl, .inr ⟨w.heap.size, 0 + more, M, rfl, Nat.le_refl _, heap_alloc_new w _, by simp, by unfold maxLen; simp at hl; omega, by omega, by simp [cellsOf]⟩⟩
    have HX := Lib.hid hX
    clear hX hfin hbel hn
    have hmk0 : ∀ W : World, (Instr.makeSlice 53 (.int .i64 0) (.int .i64 (more : Int))).run Tryz.prog W = .ok (.slice (some ⟨W.heap.size, 0, none⟩) 0 more) (W.alloc (.cells M 5)) := fun W => by simpa using hmk W
    simp only [Nat.zero_add] at hcp
    clear hmk
    go_enter Tryz.func45, Tryz.ntmps45
    go_wp2
    go_ret
    exact ⟨_, rfl, by simpa using HX.out, (Below.refl _ w).alloc (Nat.le_refl _) _⟩
  · have hcp := run_copy_row (P := Tryz.prog) (w.alloc (.cells M 5)) 53 53 3 5 w.heap.size 0 n (n + more) a n cap M 5 (cellsOf l) und_bytes hinfo (heap_alloc_new w _) (by rw [cellsOf_length, ← hn]; exact (Nat.min_self n).symm)
      (by
        intro j x hx
        have h1 := hsrc j x hx
        rw [← h1]
        exact ((Below.refl w.heap.size w).alloc (Nat.le_refl _) _).cell (World.block_lt_of_cell? w _ h1))
      (by rw [cellsOf_length]; omega) (cellsOf_one l)
    obtain ⟨Y, hY⟩ : ∃ Y, Y = (M.toList.take 0 ++ cellsOf l ++ M.toList.drop (0 + (cellsOf l).length)).toArray := ⟨_, rfl⟩
    rw [← hY, cellsOf_length, ← hn] at hcp
    have hYl : Y.toList.take n = cellsOf l := by
      rw [hY, List.toList_toArray, List.take_zero, List.nil_append, List.take_left' (by rw [cellsOf_length, hn])]
    have hYs : Y.size = n + more := by rw [hY]; simp [cellsOf_length]; omega
    have HX := Lib.hid (hfin Y hYs hYl)
    have HB := Lib.hid (hbel Y)
    have hnb : n + more ≤ 140737488355328 := by omega
    rw [← hn]
    clear hY hfin hbel hn hYl hsrc hMs hYs
    go_enter Tryz.func45, Tryz.ntmps45
    go_wp2
    go_ret
    exact ⟨_, rfl, HX.out, HB.out⟩
end
section
open Go.RowKit
set_option linter.unusedVariables false
set_option maxRecDepth 100000

/-- The lowest bytes of n, so many, the highest first. -/
def be (size n : Nat) : List UInt8 := (List.range size).map fun i => UInt8.ofNat (n / 256 ^ (size - 1 - i))
theorem be_length (size n : Nat) : (be size n).length = size := by simp [be]
theorem be_take (size n k : Nat) (h : k < size) : (be size n).take (k + 1) = (be size n).take k ++ [UInt8.ofNat (n / 256 ^ (size - 1 - k))] := by
  rw [List.take_succ_eq_append_getElem (by rw [be_length]; exact h)]
  simp [be]

theorem be_byte (n m : Nat) : (n : Int) / 2 ^ (8 * m) % 256 = ((UInt8.ofNat (n / 256 ^ m)).toNat : Int) := by
  have h : (2 : Int) ^ (8 * m) = ((256 ^ m : Nat) : Int) := by
    rw [Int.pow_mul, Int.natCast_pow]; rfl
  rw [h, UInt8.toNat_ofNat']
  generalize 256 ^ m = q
  simp
theorem be_step {w1 : World} {B : Nat} {v' : Value} {l m : List UInt8} {n size k : Nat} (hk : k < size) (hm : m = l ++ (be size n).take k)
    (hown : w1.ownsRow B 5 1 v' (m.length + 1) (cellsOf m ++ [.int .u8 ((n : Int) / 2 ^ (8 * (size - 1 - k)) % 256)])) :
    Bs w1 B v' (l ++ (be size n).take (k + 1)) := by
  unfold Bs
  rw [be_take size n k hk, ← List.append_assoc, ← hm]
  rw [cellsOf_append, List.length_append, List.length_singleton]
  rw [be_byte] at hown
  exact hown

set_option maxHeartbeats 1000000 in
theorem bigEndian_any (B : Nat) (v : Value) (l : List UInt8) (n size : Nat) (w : World) (h : Bs w B v l) (hB : B ≤ w.heap.size) (hl : l.length + size ≤ 140737488355328) (hn : n < 2 ^ 62) (hs : size ≤ 8) :
    Calls Tryz.prog 46 #[v, .int .i64 n, .int .i64 size] w fun e w' => ∃ v', e = .returned v' ∧ Bs w' B v' (l ++ be size n) ∧ Below B w w' := by
  obtain ⟨i0, hi, hz0, hz1, hz2⟩ := info_parts info_u8
  go_enter Tryz.func46, Tryz.ntmps46
  go_wp2_with fail
  go_loopw [0, 9] (fun x i wr => ∃ k : Nat, k ≤ size ∧ i = .int .i64 k ∧ Bs wr B x (l ++ (be size n).take k) ∧ Below B w wr) (fun _ i _ => size - (intOf i).toNat)
  case atStart => exact ⟨0, Nat.zero_le _, rfl, by simpa using h, Below.refl _ _⟩
  case round =>
    obtain ⟨k, hk, rfl, hown, hb⟩ := hrel
    by_cases hlt : k < size
    · have hsz := hb.size
      obtain ⟨m, hm⟩ : ∃ m, m = l ++ (be size n).take k := ⟨_, rfl⟩
      have hlen : m.length ≤ l.length + k := by
        rw [hm, List.length_append, List.length_take]; omega
      rw [← hm] at hown
      have HM := Lib.hid hm
      clear hm
      go_wp2_with (at_builtin; refine wpList_append_own _ rfl _ _ 53 rfl B 5 i0 (.int .u8 0) 1 1 und_bytes hi hz0 hz1 hz2 rfl (by decide) _ _ _ rfl (hown.alloc _) ⟨wr.heap.size, 0, none⟩ 1 1 [.int .u8 ((n : Int) / 2 ^ (8 * (size - 1 - k)) % 256)] rfl rfl ?c1 ?c2 ?c3 ?c4 ?c5 ?_)
      case c1 =>
        intro j u hj
        match j, hj with
        | 0, hj => simp at hj; subst hj; simp [Addr.add]
      case c2 => intro u hu; simp at hu; subst hu; rfl
      case c3 => unfold maxLen; omega
      case c4 => omega
      case c5 => simp; omega
      · intro v' w1 hown' hgrow _
        have R := be_step hlt HM.out hown'
        have hbel : Below B w w1 := by
          refine (hb.alloc (by omega) _).grown hgrow (by simp; omega) ?_
          intro q hq
          rcases hown.2 with ⟨h2, _⟩ | ⟨g, cap, cur, hv, hg, _⟩
          · rw [h2] at hq; simp [Value.ownBlock] at hq
          · rw [hv] at hq; simp [Value.ownBlock] at hq; omega
        clear hown' hgrow hown hlen
        go_wp2_with fail
        go_roundw
        case rel => exact ⟨k + 1, by omega, by go_num, R, hbel⟩
        case measure => simp [intOf]; omega
    · have hkk : (be size n).take k = be size n := List.take_of_length_le (by rw [be_length]; omega)
      rw [hkk] at hown
      have HO := Lib.hid hown
      clear hown hkk
      go_wp2_with fail
      go_ret
      exact ⟨_, rfl, HO.out, hb⟩
end
section
open Go.RowKit
set_option linter.unusedVariables false
set_option maxRecDepth 100000

/-- A number's six bytes. -/
def numE (z : Int) : List UInt8 := be 6 (min (max z 0) 281474976710655).toNat
def numsE (zs : List Int) : List UInt8 := zs.flatMap numE
theorem numE_length (z : Int) : (numE z).length = 6 := be_length _ _
theorem numsE_length (zs : List Int) : (numsE zs).length = 6 * zs.length := by
  induction zs with
  | nil => rfl
  | cons z zs ih => rw [numsE, List.flatMap_cons, List.length_append, numE_length]; unfold numsE at ih; rw [ih, List.length_cons]; omega
theorem take_snoc_getD {α : Type} (zs : List α) (d : α) (k : Nat) (h : k < zs.length) : zs.take (k + 1) = zs.take k ++ [zs.getD k d] := by
  rw [List.take_succ_eq_append_getElem h, show zs.getD k d = zs[k] by simp [h]]
theorem numsE_snoc (zs : List Int) (k : Nat) (h : k < zs.length) : numsE (zs.take (k + 1)) = numsE (zs.take k) ++ numE (zs.getD k 0) := by
  rw [take_snoc_getD zs 0 k h, numsE, List.flatMap_append]; simp [numsE]

set_option maxHeartbeats 1000000 in
theorem num_list (v : Value) (l : List UInt8) (b off cap : Nat) (zs : List Int) (w : World) (h : Src w v l) (hb : b < w.heap.size)
    (hl : l.length + 6 * zs.length ≤ 140737488355328)
    (hz : ∀ j, j < zs.length → -9223372036854775808 ≤ zs.getD j 0 ∧ zs.getD j 0 ≤ 9223372036854775807)
    (hc : ∀ j, j < zs.length → w.cell? ⟨b, off + j, none⟩ = some (.int .i64 (zs.getD j 0))) :
    Calls Tryz.prog 22 #[v, .slice (some ⟨b, off, none⟩) zs.length cap] w fun e w' => ∃ v', e = .returned v' ∧ Bs w' w.heap.size v' (l ++ numsE zs) ∧ Below w.heap.size w w' := by
  have HE := Lib.hid (extend_any v l (6 * zs.length) w h (by omega))
  obtain ⟨a0, c0, rfl, _⟩ := h
  have HZ := Lib.hid hz
  have HC := Lib.hid hc
  clear hz hc
  go_enter Tryz.func22, Tryz.ntmps22
  go_wp2_with fail
  refine HE.out.mono ?_
  rintro e w1 ⟨v1, rfl, ho1, hb1⟩
  go_wp2_with fail
  go_loopw [5, 15] (fun x i wr => ∃ k : Nat, k ≤ zs.length ∧ i = .int .i64 k ∧ Bs wr w.heap.size x (l ++ numsE (zs.take k)) ∧ Below w.heap.size w wr) (fun _ i _ => zs.length - (intOf i).toNat)
  case atStart => exact ⟨0, Nat.zero_le _, rfl, by simpa [numsE] using ho1, hb1⟩
  case round =>
    obtain ⟨k, hk, rfl, hown, hb⟩ := hrel
    by_cases hlt : k < zs.length
    · have hcell : wr.cell? ⟨b, off + k, none⟩ = some (.int .i64 (zs.getD k 0)) := (hb.cell (p := ⟨b, off + k, none⟩) (by assumption)).trans (HC.out k hlt)
      have hzk := HZ.out k hlt
      have hes : l ++ numsE (zs.take (k + 1)) = (l ++ numsE (zs.take k)) ++ numE (zs.getD k 0) := by rw [numsE_snoc zs k hlt, List.append_assoc]
      have hln : (l ++ numsE (zs.take k)).length ≤ l.length + 6 * k := by
        rw [List.length_append, numsE_length, List.length_take]; omega
      have HES := Lib.hid hes
      clear hes
      generalize l ++ numsE (zs.take k) = m at *
      generalize zs.getD k 0 = z at *
      obtain ⟨n, hn⟩ := Int.eq_ofNat_of_zero_le (show 0 ≤ min (max z 0) 281474976710655 by omega)
      have hn2 : n < 2 ^ 62 := by omega
      have hnz : numE z = be 6 n := by unfold numE; rw [hn]; rfl
      have HN := Lib.hid hn
      have HNZ := Lib.hid hnz
      clear hn hnz
      have hsz := hb.size
      go_wp2_with fail
      rw [HN.out]
      refine (bigEndian_any w.heap.size _ m n 6 _ hown hsz (by omega) hn2 (by omega)).mono ?_
      rintro e w2 ⟨v2, rfl, ho2, hb2⟩
      rw [← HNZ.out, ← HES.out] at ho2
      go_wp2_with fail
      go_roundw
      case rel => exact ⟨k + 1, by omega, by go_num, ho2, hb.trans hb2⟩
      case measure => simp [intOf]; omega
    · have hkk : zs.take k = zs := List.take_of_length_le (by omega)
      rw [hkk] at hown
      have HO := Lib.hid hown
      clear hown hkk
      go_wp2_with fail
      go_ret
      exact ⟨_, rfl, HO.out, hb⟩

set_option maxHeartbeats 1000000 in
theorem num_none (v : Value) (l : List UInt8) (p : Option Addr) (cap : Nat) (w : World) (h : Src w v l)
    (hl : l.length ≤ 140737488355328) :
    Calls Tryz.prog 22 #[v, .slice p 0 cap] w fun e w' => ∃ v', e = .returned v' ∧ Bs w' w.heap.size v' l ∧ Below w.heap.size w w' := by
  have HE := Lib.hid (extend_any v l 0 w h (by omega))
  obtain ⟨a0, c0, rfl, _⟩ := h
  go_enter Tryz.func22, Tryz.ntmps22
  go_wp2_with fail
  refine HE.out.mono ?_
  rintro e w1 ⟨v1, rfl, ho1, hb1⟩
  go_wp2_with fail
  refine wp_loop_rounds 1 ?_
  rw [rounds_succ]
  go_wp2_with fail
  go_ret
  exact ⟨_, rfl, ho1, hb1⟩

/-- One number. -/
theorem num_one (v : Value) (l : List UInt8) (z : Int) (w : World) (h : Src w v l) (hl : l.length + 6 ≤ 140737488355328)
    (hz : -9223372036854775808 ≤ z ∧ z ≤ 9223372036854775807) :
    Calls Tryz.prog 22 #[v, .slice (some ⟨w.heap.size, 0, none⟩) 1 1] (w.alloc (.cells #[.int .i64 z] 3)) fun e w' => ∃ v', e = .returned v' ∧ Bs w' w.heap.size v' (l ++ numE z) ∧ Below w.heap.size w w' := by
  have h0 := (Below.refl w.heap.size w).alloc (Nat.le_refl _) (.cells #[.int .i64 z] 3)
  refine (num_list v l w.heap.size 0 1 [z] (w.alloc (.cells #[.int .i64 z] 3)) (h.below h0) (by simp) (by simpa using hl) ?_ ?_).mono ?_
  · intro j hj
    match j, hj with
    | 0, _ => exact hz
  · intro j hj
    match j, hj with
    | 0, _ => simp [World.cell?_alloc_at]
  · rintro e w' ⟨v', he, ho, hb⟩
    refine ⟨v', he, ?_, h0.trans (hb.mono (by simp))⟩
    have := ho.mono (C := w.heap.size) (by simp)
    simpa [numsE] using this
end
section
open Go.RowKit
set_option linter.unusedVariables false
set_option maxRecDepth 100000

/-- A string's bytes: its length in two bytes, and (at most 65535 of) its bytes. -/
def textE (l : List UInt8) : List UInt8 := be 2 (l.take 65535).length ++ l.take 65535
def textsE (ss : List ByteArray) : List UInt8 := ss.flatMap fun s => textE s.data.toList
theorem textE_length (l : List UInt8) : (textE l).length ≤ 65537 := by
  unfold textE; rw [List.length_append, be_length, List.length_take]; omega
theorem textsE_length (ss : List ByteArray) : (textsE ss).length ≤ 65537 * ss.length := by
  induction ss with
  | nil => exact Nat.le_refl 0
  | cons z zs ih => rw [textsE, List.flatMap_cons, List.length_append, List.length_cons]; have := textE_length z.data.toList; unfold textsE at ih; omega
theorem textsE_snoc (zs : List ByteArray) (k : Nat) (h : k < zs.length) : textsE (zs.take (k + 1)) = textsE (zs.take k) ++ textE (zs.getD k ByteArray.empty).data.toList := by
  rw [take_snoc_getD zs ByteArray.empty k h, textsE, List.flatMap_append]; simp [textsE]
theorem textE_parts (s : ByteArray) (n : Nat) (hn : n = min s.size 65535) : textE s.data.toList = be 2 n ++ (s.extract 0 n).data.toList := by
  have h : s.data.toList.take 65535 = (s.extract 0 n).data.toList := by
    rw [Lib.extract_data, List.drop_zero, Nat.sub_zero]
    by_cases hs : s.size ≤ 65535
    · rw [List.take_of_length_le (by simpa using hs), List.take_of_length_le (by rw [hn]; simp; omega)]
    · rw [show n = 65535 by omega]
  unfold textE
  rw [h]
  congr 2
  rw [← Lib.size_eq]; simp; omega

theorem und_string : Tryz.prog.underlying 9 = some .string := by kernel_rfl

set_option maxHeartbeats 1000000 in
theorem text_list (v : Value) (l : List UInt8) (b off cap : Nat) (zs : List ByteArray) (w : World) (h : Src w v l) (hb : b < w.heap.size)
    (hl : l.length + 65537 * zs.length ≤ 140737488355328)
    (hz : ∀ j, j < zs.length → (zs.getD j ByteArray.empty).size ≤ maxLen)
    (hc : ∀ j, j < zs.length → w.cell? ⟨b, off + j, none⟩ = some (.string (zs.getD j ByteArray.empty))) :
    Calls Tryz.prog 23 #[v, .slice (some ⟨b, off, none⟩) zs.length cap] w fun e w' => ∃ v', e = .returned v' ∧ Bs w' w.heap.size v' (l ++ textsE zs) ∧ Below w.heap.size w w' := by
  obtain ⟨i0, hi, hz0, hz1, hz2⟩ := info_parts info_u8
  have HE := Lib.hid (fun (m : Nat) (hm : m ≤ 65537 * zs.length) => extend_any v l m w h (by omega))
  obtain ⟨a0, c0, rfl, _⟩ := h
  have HZ := Lib.hid hz
  have HC := Lib.hid hc
  clear hz hc
  go_enter Tryz.func23, Tryz.ntmps23
  go_wp2_with fail
  go_loop [5, 13] (fun x i => ∃ k m : Nat, k ≤ zs.length ∧ i = .int .i64 k ∧ x = .int .i64 m ∧ m ≤ 65537 * k) (fun _ i => zs.length - (intOf i).toNat)
  case atStart => exact ⟨0, 0, Nat.zero_le _, rfl, rfl, Nat.zero_le _⟩
  case round =>
    obtain ⟨k, m, hk, rfl, rfl, hm⟩ := hrel
    by_cases hlt : k < zs.length
    · have hcell := HC.out k hlt
      have hzk := HZ.out k hlt
      generalize zs.getD k ByteArray.empty = z at *
      unfold maxLen at hzk
      go_wp2_with fail
      go_round
      case rel => exact ⟨k + 1, m + (2 + min z.size 65535), by omega, by go_num, by go_num, by omega⟩
      case measure => simp [intOf]; omega
    · go_wp2_with fail
      refine (HE.out m (by omega)).mono ?_
      rintro e w1 ⟨v1, rfl, ho1, hb1⟩
      clear hm
      go_wp2_with fail
      go_loopw [8, 29] (fun x i wr => ∃ k : Nat, k ≤ zs.length ∧ i = .int .i64 k ∧ Bs wr w.heap.size x (l ++ textsE (zs.take k)) ∧ Below w.heap.size w wr) (fun _ i _ => zs.length - (intOf i).toNat)
      case atStart => exact ⟨0, Nat.zero_le _, rfl, by simpa [textsE] using ho1, hb1⟩
      case round =>
        obtain ⟨j, hj, rfl, hown, hbw⟩ := hrel
        by_cases hlt2 : j < zs.length
        · have hcell : wr.cell? ⟨b, off + j, none⟩ = some (.string (zs.getD j ByteArray.empty)) := (hbw.cell (p := ⟨b, off + j, none⟩) (by assumption)).trans (HC.out j hlt2)
          have hzk := HZ.out j hlt2
          have hes : l ++ textsE (zs.take (j + 1)) = (l ++ textsE (zs.take j)) ++ textE (zs.getD j ByteArray.empty).data.toList := by rw [textsE_snoc zs j hlt2, List.append_assoc]
          have hln : (l ++ textsE (zs.take j)).length ≤ l.length + 65537 * j := by
            rw [List.length_append]
            have := textsE_length (zs.take j)
            rw [List.length_take] at this
            omega
          have HES := Lib.hid hes
          clear hes
          generalize l ++ textsE (zs.take j) = q at *
          generalize zs.getD j ByteArray.empty = z at *
          unfold maxLen at hzk
          obtain ⟨n, hn⟩ : ∃ n : Nat, n = min z.size 65535 := ⟨_, rfl⟩
          have hn1 : n ≤ z.size := by omega
          have hn2 : n ≤ 65535 := by omega
          have hmin : min (z.size : Int) 65535 = (n : Int) := by omega
          have HTP := Lib.hid (textE_parts z n hn)
          have hsz := hbw.size
          have hxs : (z.extract 0 n).size = n := by simp; omega
          have HXS := Lib.hid hxs
          clear hn hxs
          go_wp2_with fail
          refine (bigEndian_any w.heap.size _ q n 2 _ hown hsz (by omega) (by omega) (by omega)).mono ?_
          rintro e w2 ⟨v2, rfl, ho2, hb2⟩
          have hsz2 := hb2.size
          have hq2 : (q ++ be 2 n).length ≤ q.length + 2 := by rw [List.length_append, be_length]; exact Nat.le_refl _
          obtain ⟨q2, hq2e⟩ : ∃ q2, q2 = q ++ be 2 n := ⟨_, rfl⟩
          rw [← hq2e] at ho2 hq2
          have HQ2 := Lib.hid hq2e
          clear hq2e
          obtain ⟨x, hx⟩ : ∃ x, x = z.extract 0 n := ⟨_, rfl⟩
          rw [← hx] at HXS HTP ⊢
          have hxz : x.size ≤ 65535 := by rw [HXS.out]; omega
          have HX := Lib.hid hx
          clear hx
          go_wp2_with (at_builtin; refine Lib.wpList_append_own_string _ rfl _ _ 53 9 rfl w.heap.size 5 i0 und_bytes und_string hi hz0 hz1 hz2 _ _ _ rfl ho2 x rfl ?c3 ?c4 ?c5 ?_)
          case c3 => unfold maxLen; omega
          case c4 => omega
          case c5 => omega
          intro v3 w3 ho3 hg3 _
          have R : Bs w3 w.heap.size v3 (q ++ textE z.data.toList) := by
            rw [HTP.out, ← List.append_assoc, ← HQ2.out]
            unfold Bs
            rw [List.length_append, cellsOf_append, ← Lib.size_eq, ← cellsOf_str]
            exact ho3
          rw [← HES.out] at R
          have hbel : Below w.heap.size w w3 := by
            refine (hbw.trans hb2).grown hg3 (by omega) ?_
            intro y hy
            rcases ho2.2 with ⟨h2, _⟩ | ⟨g, cap, cur, hv, hg, _⟩
            · rw [h2] at hy; simp [Value.ownBlock] at hy
            · rw [hv] at hy; simp [Value.ownBlock] at hy; omega
          clear ho3 hg3 ho2 hown
          go_wp2_with fail
          go_roundw
          case rel => exact ⟨j + 1, by omega, by go_num, R, hbel⟩
          case measure => simp [intOf]; omega
        · have hkk : zs.take j = zs := List.take_of_length_le (by omega)
          rw [hkk] at hown
          have HO := Lib.hid hown
          clear hown hkk
          go_wp2_with fail
          go_ret
          exact ⟨_, rfl, HO.out, hbw⟩
/-- One string. -/
theorem text_one (v : Value) (l : List UInt8) (z : ByteArray) (w : World) (h : Src w v l) (hl : l.length + 65537 ≤ 140737488355328) (hz : z.size ≤ maxLen) :
    Calls Tryz.prog 23 #[v, .slice (some ⟨w.heap.size, 0, none⟩) 1 1] (w.alloc (.cells #[.string z] 9)) fun e w' => ∃ v', e = .returned v' ∧ Bs w' w.heap.size v' (l ++ textE z.data.toList) ∧ Below w.heap.size w w' := by
  have h0 := (Below.refl w.heap.size w).alloc (Nat.le_refl _) (.cells #[.string z] 9)
  refine (text_list v l w.heap.size 0 1 [z] (w.alloc (.cells #[.string z] 9)) (h.below h0) (by simp) (by simpa using hl) ?_ ?_).mono ?_
  · intro j hj
    match j, hj with
    | 0, _ => exact hz
  · intro j hj
    match j, hj with
    | 0, _ => simp [World.cell?_alloc_at]
  · rintro e w' ⟨v', he, ho, hb⟩
    refine ⟨v', he, ?_, h0.trans (hb.mono (by simp))⟩
    have := ho.mono (C := w.heap.size) (by simp)
    simpa [textsE] using this
end
section
set_option linter.unusedVariables false

theorem be_succ (k n : Nat) : be (k + 1) n = UInt8.ofNat (n / 256 ^ k) :: be k n := by
  unfold be
  rw [List.range_succ_eq_map, List.map_cons, List.map_map]
  congr 1
  apply List.map_congr_left
  intro i hi
  show UInt8.ofNat (n / 256 ^ (k + 1 - 1 - (i + 1))) = UInt8.ofNat (n / 256 ^ (k - 1 - i))
  rw [show k + 1 - 1 - (i + 1) = k - 1 - i by omega]
theorem be_zero (n : Nat) : be 0 n = [] := rfl
theorem ofNat_mod (a b : Nat) (h : a % 256 = b % 256) : UInt8.ofNat a = UInt8.ofNat b := by
  apply UInt8.toNat_inj.1
  rw [UInt8.toNat_ofNat', UInt8.toNat_ofNat']
  exact h
theorem be_add (k m n : Nat) : be k (m * 256 ^ k + n) = be k n := by
  induction k generalizing m with
  | zero => rfl
  | succ k ih =>
    rw [be_succ, be_succ]
    have e : m * 256 ^ (k + 1) + n = (m * 256) * 256 ^ k + n := by rw [Nat.pow_succ, Nat.mul_assoc, Nat.mul_comm 256]
    rw [e, ih (m * 256)]
    congr 1
    apply ofNat_mod
    have hp : 0 < 256 ^ k := Nat.pow_pos (by omega)
    rw [Nat.add_comm, Nat.add_mul_div_right _ _ hp]
    omega
theorem val_cons (c : UInt8) (l : List UInt8) : val (c :: l) = c.toNat * 256 ^ l.length + val l := by
  have h : ∀ (l : List UInt8) (a : Nat), l.foldl (fun a c => a * 256 + c.toNat) a = a * 256 ^ l.length + val l := by
    intro l
    induction l with
    | nil => intro a; simp [val]
    | cons d l ih =>
      intro a
      unfold val
      rw [List.foldl_cons, List.foldl_cons, ih (a * 256 + d.toNat), ih (0 * 256 + d.toNat), List.length_cons, Nat.pow_succ]
      rw [Nat.add_mul, Nat.zero_mul, Nat.mul_comm (256 ^ l.length) 256, ← Nat.mul_assoc, Nat.zero_add, Nat.add_assoc]
  show (c :: l).foldl (fun a c => a * 256 + c.toNat) 0 = _
  rw [List.foldl_cons, h]
  simp
theorem val_be (k n : Nat) : val (be k n) = n % 256 ^ k := by
  induction k with
  | zero => rw [be_zero, Nat.pow_zero, Nat.mod_one]; rfl
  | succ k ih =>
    rw [be_succ, val_cons, be_length, ih, UInt8.toNat_ofNat']
    have hp : 0 < 256 ^ k := Nat.pow_pos (by omega)
    have hm : n % (256 ^ k * 256) = n % 256 ^ k + 256 ^ k * (n / 256 ^ k % 256) := Nat.mod_mul
    show n / 256 ^ k % 256 * 256 ^ k + n % 256 ^ k = n % 256 ^ (k + 1)
    rw [Nat.pow_succ, hm, Nat.mul_comm (256 ^ k), Nat.add_comm]
theorem val_be_lt (k n : Nat) (h : n < 256 ^ k) : val (be k n) = n := by rw [val_be, Nat.mod_eq_of_lt h]
theorem be_val (l : List UInt8) : be l.length (val l) = l := by
  induction l with
  | nil => rfl
  | cons c l ih =>
    rw [List.length_cons, be_succ, val_cons, be_add, ih]
    congr 1
    have hv := val_lt l
    have hp : 0 < 256 ^ l.length := Nat.pow_pos (by omega)
    rw [Nat.mul_comm, Nat.mul_add_div hp, Nat.div_eq_of_lt hv, Nat.add_zero]
    simp
theorem be_less (k c d : Nat) (hc : c < 256 ^ k) (hd : d < 256 ^ k) : Op.bytesLess (be k c) (be k d) = decide (c < d) := by
  induction k generalizing c d with
  | zero =>
    have : c = 0 := by simp at hc; omega
    have : d = 0 := by simp at hd; omega
    subst_vars
    simp [be_zero, Op.bytesLess]
  | succ k ih =>
    have hp : 0 < 256 ^ k := Nat.pow_pos (by omega)
    have e1 := Nat.div_add_mod c (256 ^ k)
    have e2 := Nat.div_add_mod d (256 ^ k)
    have b1 : be k c = be k (c % 256 ^ k) := by
      have := be_add k (c / 256 ^ k) (c % 256 ^ k)
      rwa [Nat.mul_comm, e1] at this
    have b2 : be k d = be k (d % 256 ^ k) := by
      have := be_add k (d / 256 ^ k) (d % 256 ^ k)
      rwa [Nat.mul_comm, e2] at this
    have q1 : c / 256 ^ k < 256 := Nat.div_lt_of_lt_mul (by rw [Nat.pow_succ] at hc; exact hc)
    have q2 : d / 256 ^ k < 256 := Nat.div_lt_of_lt_mul (by rw [Nat.pow_succ] at hd; exact hd)
    rw [be_succ, be_succ, b1, b2, Op.bytesLess, ih _ _ (Nat.mod_lt _ hp) (Nat.mod_lt _ hp)]
    have r1 := Nat.mod_lt c hp
    have r2 := Nat.mod_lt d hp
    have l1 : (UInt8.ofNat (c / 256 ^ k) < UInt8.ofNat (d / 256 ^ k)) ↔ c / 256 ^ k < d / 256 ^ k := by
      rw [UInt8.lt_iff_toNat_lt, UInt8.toNat_ofNat', UInt8.toNat_ofNat', Nat.mod_eq_of_lt q1, Nat.mod_eq_of_lt q2]
    have l2 : (UInt8.ofNat (c / 256 ^ k) = UInt8.ofNat (d / 256 ^ k)) ↔ c / 256 ^ k = d / 256 ^ k := by
      rw [← UInt8.toNat_inj, UInt8.toNat_ofNat', UInt8.toNat_ofNat', Nat.mod_eq_of_lt q1, Nat.mod_eq_of_lt q2]
    rw [Bool.eq_iff_iff]
    simp only [Bool.or_eq_true, decide_eq_true_eq, Bool.and_eq_true, beq_iff_eq, l1, l2]
    generalize c / 256 ^ k = x at *
    generalize d / 256 ^ k = y at *
    generalize c % 256 ^ k = u at *
    generalize d % 256 ^ k = v at *
    generalize 256 ^ k = q at *
    constructor
    · rintro (h | ⟨h, h2⟩)
      · have : q * (x + 1) ≤ q * y := Nat.mul_le_mul_left q h
        rw [Nat.mul_add, Nat.mul_one] at this
        omega
      · subst h; omega
    · intro h
      rcases Nat.lt_trichotomy x y with h1 | h1 | h1
      · exact .inl h1
      · subst h1; exact .inr ⟨rfl, by omega⟩
      · exfalso
        have : q * (y + 1) ≤ q * x := Nat.mul_le_mul_left q h1
        rw [Nat.mul_add, Nat.mul_one] at this
        omega
theorem be_inj (k c d : Nat) (hc : c < 256 ^ k) (hd : d < 256 ^ k) : (be k c == be k d) = decide (c = d) := by
  rw [Bool.eq_iff_iff]
  simp only [beq_iff_eq, decide_eq_true_eq]
  constructor
  · intro h
    have := congrArg val h
    rwa [val_be_lt k c hc, val_be_lt k d hd] at this
  · rintro rfl; rfl
end
section
open Go.RowKit
set_option linter.unusedVariables false

theorem val_numE (z : Int) (h0 : 0 ≤ z) (h1 : z ≤ 281474976710655) : (val (numE z) : Int) = z := by
  unfold numE
  rw [val_be_lt _ _ (by have : (256 : Nat) ^ 6 = 281474976710656 := by decide
                        omega)]
  omega
theorem numF_good (z most : Int) (r : List UInt8) (h0 : 0 ≤ z) (hz : z ≤ most) (hm : most ≤ 281474976710655) : numF 6 most (some (numE z ++ r)) = (z, some r) := by
  have hl : (numE z).length = 6 := numE_length z
  have ht : (numE z ++ r).take 6 = numE z := List.take_left' hl
  have hd : (numE z ++ r).drop 6 = r := List.drop_left' hl
  have hv := val_numE z h0 (by omega)
  show (if _ then _ else _) = _
  rw [if_neg (by rw [ht, hv, List.length_append, hl]; omega), ht, hd, hv]
theorem textF_good (t : List UInt8) (most : Int) (r : List UInt8) (ht : (t.length : Int) ≤ most) (hm : most ≤ 65535) : textF most (some (textE t ++ r)) = (t, some r) := by
  have h0 : t.take 65535 = t := List.take_of_length_le (by omega)
  have hb : (be 2 t.length).length = 2 := be_length _ _
  have hv : val (be 2 t.length) = t.length := val_be_lt _ _ (by have : (256 : Nat) ^ 2 = 65536 := by decide
                                                                omega)
  unfold textF textE
  rw [h0, List.append_assoc]
  have e : numF 2 most (some (be 2 t.length ++ (t ++ r))) = ((t.length : Int), some (t ++ r)) := by
    have ht2 : (be 2 t.length ++ (t ++ r)).take 2 = be 2 t.length := List.take_left' hb
    have hd2 : (be 2 t.length ++ (t ++ r)).drop 2 = t ++ r := List.drop_left' hb
    show (if _ then _ else _) = _
    rw [if_neg (by rw [ht2, hv, List.length_append, hb]; omega), ht2, hd2, hv]
  rw [e]
  show takeF (t.length : Int).toNat (some (t ++ r)) = _
  rw [Int.toNat_natCast]
  show (if _ then _ else _) = _
  rw [if_neg (by rw [List.length_append]; omega), List.take_left' rfl, List.drop_left' rfl]
end
end Go.Proofs.YtblcpihfnpgfiaaGreatDoor
