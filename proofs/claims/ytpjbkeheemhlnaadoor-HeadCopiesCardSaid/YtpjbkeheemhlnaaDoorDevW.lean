/- A device beside blocks that it leaves alone: what slot's and dev's functions do to it. No conditions beyond those in each statement. -/
import Derived.Test.YtpjbkeheemhlnaaDoorSlotLone
namespace Go.Proofs.YtpjbkeheemhlnaaDoor
open Go.RowKit
set_option linter.unusedVariables false
set_option maxRecDepth 100000

/-- A device whose blocks lie from n on; those of E are none of them. -/
def DevW (n : Nat) (E : Nat → Prop) (w : World) (B : Nat) (D : Dv) : Prop := ∃ S, DevAt S w B D ∧ (∀ k, S k → n ≤ k ∧ ¬ E k) ∧ ∀ k, E k → k < w.heap.size
/-- The blocks of E are as they were. -/
def Kept (E : Nat → Prop) (w w' : World) : Prop := ∀ k, E k → w'.heap[k]? = w.heap[k]?
theorem Kept.refl (E : Nat → Prop) (w : World) : Kept E w w := fun _ _ => rfl
theorem Kept.trans {E : Nat → Prop} {a w x : World} (h : Kept E a w) (k : Kept E w x) : Kept E a x := fun i hi => (k i hi).trans (h i hi)
theorem Kept.of_below {E : Nat → Prop} {w x : World} (hE : ∀ k, E k → k < w.heap.size) (h : Below w.heap.size w x) : Kept E w x := fun i hi => h.block i (hE i hi)
theorem Kept.mono {E F : Nat → Prop} {w x : World} (h : Kept E w x) (hF : ∀ k, F k → E k) : Kept F w x := fun i hi => h i (hF i hi)
theorem RecB.keep {E : Nat → Prop} {w w' : World} {b : Nat} {r : Rc} (h : RecB w b r) (k : Kept E w w') (hb : E b) : RecB w' b r := (k b hb).trans h

section
variable {n : Nat} {E : Nat → Prop} {w x : World} {B : Nat} {D : Dv}
theorem DevW.lt (h : DevW n E w B D) : ∀ k, E k → k < w.heap.size := by obtain ⟨S, _, _, h⟩ := h; exact h
theorem DevW.below (h : DevW n E w B D) (hb : Below w.heap.size w x) : DevW n E x B D := by
  obtain ⟨S, h, hS, hE⟩ := h
  exact ⟨S, h.below hb, hS, fun k hk => Nat.lt_of_lt_of_le (hE k hk) hb.size⟩
theorem DevW.drew (h : DevW n E w B D) : DevW n E w.drew B D := by
  obtain ⟨S, h, hS, hE⟩ := h
  exact ⟨S, h.drew, hS, hE⟩
/-- A block that has just been made joins those that the device leaves alone. -/
theorem DevW.alloc (h : DevW n E w B D) (o : Obj) : DevW n (fun k => E k ∨ k = w.heap.size) (w.alloc o) B D := by
  obtain ⟨S, h, hS, hE⟩ := h
  refine ⟨S, h.below ((Below.refl _ w).alloc (Nat.le_refl _) o), fun k hk => ⟨(hS k hk).1, fun e => e.elim (hS k hk).2 (fun e => ?_)⟩, fun k hk => ?_⟩
  · have := h.lt k hk; omega
  · rcases hk with hk | hk
    · have := hE k hk; simp; omega
    · subst hk; simp
theorem DevW.less {F : Nat → Prop} (h : DevW n E w B D) (hF : ∀ k, F k → E k) : DevW n F w B D := by
  obtain ⟨S, h, hS, hE⟩ := h
  exact ⟨S, h, fun k hk => ⟨(hS k hk).1, fun e => (hS k hk).2 (hF k e)⟩, fun k hk => hE k (hF k hk)⟩
theorem DevW.fits (h : DevW n E w B D) : D.Fits := by obtain ⟨S, h, _⟩ := h; exact h.fits
theorem devw_new (h : DevAt (span w.heap.size x.heap.size) x B D) (hn : n ≤ w.heap.size) (hE : ∀ k, E k → k < w.heap.size) (hs : w.heap.size ≤ x.heap.size) : DevW n E x B D :=
  ⟨_, h, fun k hk => ⟨Nat.le_trans hn hk.1, fun e => by have := hE k e; have := hk.1; omega⟩, fun k hk => Nat.lt_of_lt_of_le (hE k hk) hs⟩
theorem devw_mod {S : Nat → Prop} {D' : Dv} (hS : ∀ k, S k → n ≤ k ∧ ¬ E k) (hE : ∀ k, E k → k < w.heap.size) (hn : n ≤ w.heap.size) (h : DevTo S w B D' x) : DevW n E x B D' ∧ Below n w x ∧ Kept E w x := by
  obtain ⟨S', h', hS', hm⟩ := h
  refine ⟨⟨S', h', fun k hk => (hS' k hk).elim (hS k) (fun e => ⟨Nat.le_trans hn e, fun e' => by have := hE k e'; omega⟩), fun k hk => Nat.lt_of_lt_of_le (hE k hk) hm.size⟩, hm.toBelow (fun k hk => (hS k hk).1) hn, fun k hk => hm.block k (hE k hk) (fun e => (hS k e).2 hk)⟩
theorem devw_sread (i : Int) (ht : Tabs w) (hw : D.writes ≤ 1073741824) (h : DevW n E w B D) :
    Calls Tryd.prog 23 #[.pointer (some ⟨B, 0, none⟩), .int .i64 i] w fun e w' => e = .returned (sreadV (D.sread i)) ∧ Below w.heap.size w w' := by
  obtain ⟨S, h, hS, hE⟩ := h
  exact sread_any i h ht hw
theorem devw_swrite (i : Int) (r : Rc) (hn : n ≤ w.heap.size) (ht : Tabs w) (hw : D.writes ≤ 1073741824) (h : DevW n E w B D) :
    Calls Tryd.prog 78 #[.pointer (some ⟨B, 0, none⟩), .int .i64 i, recV r] w fun e w' => e = .returned (.int .i64 (D.swrite i r).1) ∧ DevW n E w' B (D.swrite i r).2 ∧ Below n w w' ∧ Kept E w w' := by
  obtain ⟨S, h, hS, hE⟩ := h
  refine (swrite_any i r h ht hw).mono ?_
  rintro e w' ⟨rfl, h'⟩
  exact ⟨rfl, devw_mod hS hE hn h'⟩
theorem devw_flush (hn : n ≤ w.heap.size) (hw : D.writes ≤ 1073741824) (h : DevW n E w B D) :
    Calls Tryd.prog 79 #[.pointer (some ⟨B, 0, none⟩)] w fun e w' => e = .returned (.int .i64 D.flush.1) ∧ DevW n E w' B D.flush.2 ∧ Below n w w' ∧ Kept E w w' := by
  obtain ⟨S, h, hS, hE⟩ := h
  refine (flush_any h (by omega)).mono ?_
  rintro e w' ⟨rfl, h', hm⟩
  exact ⟨rfl, devw_mod hS hE hn (h'.to hm)⟩
theorem devw_fall (i : Int) (hi : i ≤ 9223372036854775807) (hn : n ≤ w.heap.size) (h : DevW n E w B D) :
    Calls Tryd.prog 20 #[.pointer (some ⟨B, 0, none⟩), .int .i64 i] w fun e w' => e = .returned (.tuple #[]) ∧ DevW n E w' B (D.fall i) ∧ Below n w w' ∧ Kept E w w' := by
  obtain ⟨S, h, hS, hE⟩ := h
  refine (fall_any i hi h).mono ?_
  rintro e w' ⟨rfl, h', hm⟩
  exact ⟨rfl, devw_mod hS hE hn (h'.to hm)⟩
theorem devw_lose (i : Int) (hn : n ≤ w.heap.size) (h : DevW n E w B D) :
    Calls Tryd.prog 26 #[.pointer (some ⟨B, 0, none⟩), .int .i64 i] w fun e w' => e = .returned (.tuple #[]) ∧ DevW n E w' B (D.onB i Blk.lose) ∧ Below n w w' ∧ Kept E w w' := by
  obtain ⟨S, h, hS, hE⟩ := h
  refine (lose_any i h).mono ?_
  rintro e w' ⟨rfl, h', hm⟩
  exact ⟨rfl, devw_mod hS hE hn (h'.to hm)⟩
theorem devw_flip (i a : Int) (bt : Nat) (ha : -9223372036854775808 ≤ a ∧ a ≤ 9223372036854775807) (hbt : bt < 256) (hn : n ≤ w.heap.size) (h : DevW n E w B D) :
    Calls Tryd.prog 27 #[.pointer (some ⟨B, 0, none⟩), .int .i64 i, .int .i64 a, .int .u8 bt] w fun e w' => e = .returned (.tuple #[]) ∧ DevW n E w' B (D.onB i fun b => b.flip a bt) ∧ Below n w w' ∧ Kept E w w' := by
  obtain ⟨S, h, hS, hE⟩ := h
  refine (flip_any i a bt ha hbt h).mono ?_
  rintro e w' ⟨rfl, h', hm⟩
  exact ⟨rfl, devw_mod hS hE hn (h'.to hm)⟩
theorem devw_crash (fv : Value) (zs : List Int) (hw : D.writes ≤ 1073741824) (h : DevW n E w B D) (hz : Fts w fv zs) :
    Calls Tryd.prog 28 #[.pointer (some ⟨B, 0, none⟩), fv] w fun e w' => NewDev (D.crash zs) w e w' := by
  obtain ⟨S, h, hS, hE⟩ := h
  exact crash_any fv zs (by omega) h hz
end
theorem i64_and7 (n : Int) : bits .and .i64 n 7 = n % 8 := by
  have h127 : (BitVec.ofInt 64 7).toNat = 2 ^ 3 - 1 := by decide
  have key : (BitVec.ofInt 64 n &&& BitVec.ofInt 64 7).toNat = (n % ((2 ^ 64 : Nat) : Int)).toNat % 2 ^ 3 := by
    rw [BitVec.toNat_and, BitVec.toNat_ofInt, h127, Nat.and_two_pow_sub_one_eq_mod]
  show IntKind.i64.wrap ((BitVec.ofInt 64 n &&& BitVec.ofInt 64 7).toNat : Nat) = n % 8
  rw [key, IntKind.wrap_i64]
  omega
theorem i64_and1 (n : Int) : bits .and .i64 n 1 = n % 2 := by
  have h127 : (BitVec.ofInt 64 1).toNat = 2 ^ 1 - 1 := by decide
  have key : (BitVec.ofInt 64 n &&& BitVec.ofInt 64 1).toNat = (n % ((2 ^ 64 : Nat) : Int)).toNat % 2 ^ 1 := by
    rw [BitVec.toNat_and, BitVec.toNat_ofInt, h127, Nat.and_two_pow_sub_one_eq_mod]
  show IntKind.i64.wrap ((BitVec.ofInt 64 n &&& BitVec.ofInt 64 1).toNat : Nat) = n % 2
  rw [key, IntKind.wrap_i64]
  omega
theorem i64_and3 (n : Int) : bits .and .i64 n 3 = n % 4 := by
  have h127 : (BitVec.ofInt 64 3).toNat = 2 ^ 2 - 1 := by decide
  have key : (BitVec.ofInt 64 n &&& BitVec.ofInt 64 3).toNat = (n % ((2 ^ 64 : Nat) : Int)).toNat % 2 ^ 2 := by
    rw [BitVec.toNat_and, BitVec.toNat_ofInt, h127, Nat.and_two_pow_sub_one_eq_mod]
  show IntKind.i64.wrap ((BitVec.ofInt 64 n &&& BitVec.ofInt 64 3).toNat : Nat) = n % 4
  rw [key, IntKind.wrap_i64]
  omega
end Go.Proofs.YtpjbkeheemhlnaaDoor
