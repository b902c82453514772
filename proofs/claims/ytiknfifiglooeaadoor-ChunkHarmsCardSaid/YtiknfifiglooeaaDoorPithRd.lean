/- A reader of package pith in memory: one block of two cells, the rest of the text and whether there was an error; what the reader's methods do to it. No conditions beyond those in each statement. -/
import Derived.Test.YtiknfifiglooeaaDoorBase
import Derived.WalkKit
import Derived.WalkSpells
import Derived.WalkLawsBesides
import Derived.Lib.Hide
import Derived.OneCell
namespace Go.Proofs.YtiknfifiglooeaaDoor
open Go.RowKit
set_option linter.unusedVariables false
set_option maxRecDepth 100000

/-- The reader's block. -/
def RdB (w : World) (b : Nat) (rest : ByteArray) (f : Bool) : Prop := w.heap[b]? = some (.cells #[.string rest, .bool f] 195 (0, 0))

theorem RdB.c0 {w : World} {b : Nat} {rest : ByteArray} {f : Bool} (h : RdB w b rest f) : w.cell? ⟨b, 0, none⟩ = some (.string rest) := by unfold RdB at h; simp [World.cell?, h]
theorem RdB.c1 {w : World} {b : Nat} {rest : ByteArray} {f : Bool} (h : RdB w b rest f) : w.cell? ⟨b, 1, none⟩ = some (.bool f) := by unfold RdB at h; simp [World.cell?, h]
theorem RdB.f0 {w : World} {b : Nat} {rest : ByteArray} {f : Bool} (h : RdB w b rest f) : w.frozen? ⟨b, 0, none⟩ = false := by unfold RdB at h; simp [World.frozen?, h]
theorem RdB.f1 {w : World} {b : Nat} {rest : ByteArray} {f : Bool} (h : RdB w b rest f) : w.frozen? ⟨b, 1, none⟩ = false := by unfold RdB at h; simp [World.frozen?, h]
theorem RdB.lt {w : World} {b : Nat} {rest : ByteArray} {f : Bool} (h : RdB w b rest f) : b < w.heap.size := lt_of_block h

theorem RdB.set0 {w : World} {b : Nat} {rest r' : ByteArray} {f : Bool} (h : RdB w b rest f) : RdB (w.setCell ⟨b, 0, none⟩ (.string r')) b r' f := block_setCell h
theorem RdB.set1 {w : World} {b : Nat} {rest : ByteArray} {f f' : Bool} (h : RdB w b rest f) : RdB (w.setCell ⟨b, 1, none⟩ (.bool f')) b rest f' := block_setCell h
theorem RdB.drew {w : World} {b : Nat} {rest : ByteArray} {f : Bool} (h : RdB w b rest f) : RdB w.drew b rest f := h

theorem only_refl (a : World) (row : Option Nat) : a.grownBy a row := ⟨rfl, rfl, rfl, Nat.le_refl _, fun _ _ _ => rfl⟩
theorem only_drew {a w : World} {row : Option Nat} (h : a.grownBy w row) : a.grownBy w.drew row := ⟨h.os, h.tape, h.output, h.size, h.block⟩
theorem only_alloc {a w : World} {row : Option Nat} (h : a.grownBy w row) (o : Obj) : a.grownBy (w.alloc o) row :=
  ⟨h.os, h.tape, h.output, Nat.le_trans h.size (by simp), fun i hi hne => (Below.heap_alloc w o i (Nat.lt_of_lt_of_le hi h.size)).trans (h.block i hi hne)⟩
theorem only_setCell {a w : World} {g : Nat} (h : a.grownBy w (some g)) {p : Addr} (hp : p.block = g ∨ a.heap.size ≤ p.block) (u : Value) : a.grownBy (w.setCell p u) (some g) :=
  ⟨h.os, h.tape, h.output, by simpa [World.setCell] using h.size, fun i hi hne => (Below.heap_setCell w p u i (by
    rintro rfl
    rcases hp with hp | hp
    · exact hne (by rw [hp])
    · omega)).trans (h.block i hi hne)⟩
theorem only_of_below {a w : World} (h : Below a.heap.size a w) (row : Option Nat) : a.grownBy w row := ⟨h.os, h.tape, h.output, h.size, fun i hi _ => h.block i hi⟩
theorem only_trans {a w x : World} {row : Option Nat} (h : a.grownBy w row) (k : w.grownBy x row) : a.grownBy x row :=
  ⟨k.os.trans h.os, k.tape.trans h.tape, k.output.trans h.output, Nat.le_trans h.size k.size, fun i hi hne => (k.block i (Nat.lt_of_lt_of_le hi h.size) hne).trans (h.block i hi hne)⟩

theorem ok_any (b : Nat) (rest : ByteArray) (f : Bool) (w : World) (h : RdB w b rest f) :
    Calls Tryd.prog 122 #[.pointer (some ⟨b, 0, none⟩)] w fun e w' => e = .returned (.bool (!f)) ∧ w = w' := by
  have c1 := h.c1
  go_enter Tryd.func122, Tryd.ntmps122
  go_wp2
  go_ret
  exact ⟨rfl, rfl⟩

theorem ok_nil (w : World) :
    Calls Tryd.prog 122 #[.pointer none] w fun e w' => e = .returned (.bool false) ∧ w = w' := by
  go_enter Tryd.func122, Tryd.ntmps122
  go_wp2
  go_ret
  exact ⟨rfl, rfl⟩

theorem fail_block {w : World} {b : Nat} {rest : ByteArray} {f : Bool} (h : RdB w b rest f) : RdB ((w.setCell ⟨b, 0, none⟩ (.string ⟨#[]⟩)).setCell ⟨b, 1, none⟩ (.bool true)) b ⟨#[]⟩ true :=
  RdB.set1 (RdB.set0 h)
theorem only_set1 (b i : Nat) (w : World) (u : Value) : w.grownBy (w.setCell ⟨b, i, none⟩ u) (some b) :=
  only_setCell (p := ⟨b, i, none⟩) (only_refl w (some b)) (.inl rfl) u
theorem fail_only (b : Nat) (w : World) : w.grownBy ((w.setCell ⟨b, 0, none⟩ (.string ⟨#[]⟩)).setCell ⟨b, 1, none⟩ (.bool true)) (some b) :=
  only_trans (only_set1 b 0 w _) (only_set1 b 1 _ _)
theorem fail_any (b : Nat) (rest : ByteArray) (f : Bool) (w : World) (h : RdB w b rest f) :
    Calls Tryd.prog 127 #[.pointer (some ⟨b, 0, none⟩)] w fun e w' => e = .returned (.tuple #[]) ∧ RdB w' b ⟨#[]⟩ true ∧ w.grownBy w' (some b) := by
  have c0 := h.c0
  have c1 := h.c1
  have f0 := h.f0
  have f1 := h.f1
  go_enter Tryd.func127, Tryd.ntmps127
  go_wp2
  go_end0
  exact ⟨rfl, fail_block h, fail_only b w⟩

theorem fail_nil (w : World) :
    Calls Tryd.prog 127 #[.pointer none] w fun e w' => e = .returned (.tuple #[]) ∧ w = w' := by
  go_enter Tryd.func127, Tryd.ntmps127
  go_wp2
  go_end0
  exact ⟨rfl, rfl⟩

/-- 'take(n)' of a reader without an error that has so many bytes. -/
theorem take_ok (b : Nat) (rest : ByteArray) (n : Nat) (w : World) (h : RdB w b rest false) (hn : n ≤ rest.size) (hm : rest.size ≤ maxLen) :
    Calls Tryd.prog 121 #[.pointer (some ⟨b, 0, none⟩), .int .i64 n] w fun e w' => e = .returned (.string (rest.extract 0 n)) ∧ RdB w' b (rest.extract n rest.size) false ∧ w.grownBy w' (some b) := by
  have c0 := h.c0
  have c1 := h.c1
  have f0 := h.f0
  have hd : decide ((rest.size : Int) < (n : Int)) = false := by simp; omega
  unfold maxLen at hm
  go_enter Tryd.func121, Tryd.ntmps121
  go_wp2_with (go_at_call 122; refine (ok_any b rest false _ h).mono ?_; rintro e w' ⟨rfl, rfl⟩)
  go_ret
  exact ⟨rfl, RdB.set0 h, only_set1 b 0 w _⟩

/-- 'take(n)' of a reader with an error, or with fewer bytes. -/
theorem take_bad (b : Nat) (rest : ByteArray) (f : Bool) (n : Int) (w : World) (h : RdB w b rest f) (hn : f = true ∨ (rest.size : Int) < n) (hm : rest.size ≤ maxLen) :
    Calls Tryd.prog 121 #[.pointer (some ⟨b, 0, none⟩), .int .i64 n] w fun e w' => e = .returned (.string ⟨#[]⟩) ∧ RdB w' b ⟨#[]⟩ true ∧ w.grownBy w' (some b) := by
  have c0 := h.c0
  have c1 := h.c1
  unfold maxLen at hm
  cases f with
  | true =>
    clear hn
    go_enter Tryd.func121, Tryd.ntmps121
    go_wp2_with (first
      | (go_at_call 122; refine (ok_any b rest true _ h).mono ?_; rintro e w' ⟨rfl, rfl⟩)
      | (go_at_call 127; refine (fail_any b rest true _ h).mono ?_; rintro e w' ⟨rfl, hr, hg⟩))
    go_ret
    exact ⟨rfl, hr, hg⟩
  | false =>
    have hlt : (rest.size : Int) < n := by simpa using hn
    have hd : decide ((rest.size : Int) < n) = true := by simp; omega
    clear hn
    go_enter Tryd.func121, Tryd.ntmps121
    go_wp2_with (first
      | (go_at_call 122; refine (ok_any b rest false _ h).mono ?_; rintro e w' ⟨rfl, rfl⟩)
      | (go_at_call 127; refine (fail_any b rest false _ h).mono ?_; rintro e w' ⟨rfl, hr, hg⟩))
    go_ret
    exact ⟨rfl, hr, hg⟩

theorem take_nil (n : Int) (w : World) :
    Calls Tryd.prog 121 #[.pointer none, .int .i64 n] w fun e w' => e = .returned (.string ⟨#[]⟩) ∧ w = w' := by
  go_enter Tryd.func121, Tryd.ntmps121
  go_wp2_with (first
    | (go_at_call 122; refine (ok_nil _).mono ?_; rintro e w' ⟨rfl, rfl⟩)
    | (go_at_call 127; refine (fail_nil _).mono ?_; rintro e w' ⟨rfl, rfl⟩))
  go_ret
  exact ⟨rfl, rfl⟩

/-- What Done answers. -/
def doneV (f : Bool) (n : Nat) : Int := if f = true ∨ n ≠ 0 then 2 else 0
theorem done_any (b : Nat) (rest : ByteArray) (f : Bool) (w : World) (h : RdB w b rest f) :
    Calls Tryd.prog 108 #[.pointer (some ⟨b, 0, none⟩)] w fun e w' => e = .returned (.int .i64 (doneV f rest.size)) ∧ w = w' := by
  have c0 := h.c0
  cases f with
  | true =>
    go_enter Tryd.func108, Tryd.ntmps108
    go_wp2_with (go_at_call 122; refine (ok_any b rest true _ h).mono ?_; rintro e w' ⟨rfl, rfl⟩)
    go_ret
    exact ⟨by simp [doneV], rfl⟩
  | false =>
    by_cases hz : rest.size = 0
    · obtain rfl : rest = ⟨#[]⟩ := ByteArray.ext (Array.eq_empty_of_size_eq_zero hz)
      clear hz
      go_enter Tryd.func108, Tryd.ntmps108
      go_wp2_with (go_at_call 122; refine (ok_any b _ false _ h).mono ?_; rintro e w' ⟨rfl, rfl⟩)
      go_ret
      exact ⟨by rw [show doneV false (ByteArray.size ⟨#[]⟩) = 0 from rfl]; rfl, rfl⟩
    · have he := empty_false hz
      go_enter Tryd.func108, Tryd.ntmps108
      go_wp2_with (go_at_call 122; refine (ok_any b _ false _ h).mono ?_; rintro e w' ⟨rfl, rfl⟩)
      go_ret
      exact ⟨by simp [doneV, hz], rfl⟩

theorem done_nil (w : World) :
    Calls Tryd.prog 108 #[.pointer none] w fun e w' => e = .returned (.int .i64 2) ∧ w = w' := by
  go_enter Tryd.func108, Tryd.ntmps108
  go_wp2_with (go_at_call 122; refine (ok_nil _).mono ?_; rintro e w' ⟨rfl, rfl⟩)
  go_ret
  exact ⟨rfl, rfl⟩

theorem pread_any (s : ByteArray) (w : World) :
    Calls Tryd.prog 105 #[.string s] w fun e w' => e = .returned (.pointer (some ⟨w.heap.size, 0, none⟩)) ∧ RdB w' w.heap.size s false ∧ Below w.heap.size w w' ∧ w'.heap.size = w.heap.size + 1 := by
  go_enter Tryd.func105, Tryd.ntmps105
  go_wp2
  go_ret
  exact ⟨rfl, heap_alloc_new _ _, (Below.refl _ _).alloc (Nat.le_refl _) _, by simp⟩

end Go.Proofs.YtiknfifiglooeaaDoor
