/- A device alone among what a call has made; the document's example (head). No conditions beyond those in each statement. -/
import Derived.Test.YtpjbkeheemhlnaaDoorDevCrash
namespace Go.Proofs.YtpjbkeheemhlnaaDoor
open Go.RowKit
set_option linter.unusedVariables false
set_option maxRecDepth 100000

/-- A device whose blocks lie from n on. -/
def Lone (n : Nat) (w : World) (B : Nat) (D : Dv) : Prop := ∃ S, DevAt S w B D ∧ ∀ k, S k → n ≤ k
section
variable {n : Nat} {w x : World} {B : Nat} {D D' : Dv}
theorem Lone.below (h : Lone n w B D) (hb : Below w.heap.size w x) : Lone n x B D := by
  obtain ⟨S, h, hS⟩ := h
  exact ⟨S, h.below hb, hS⟩
theorem lone_new (h : DevAt (span w.heap.size x.heap.size) x B D) (hn : n ≤ w.heap.size) : Lone n x B D := ⟨_, h, fun k hk => Nat.le_trans hn hk.1⟩
theorem Lone.fits (h : Lone n w B D) : D.Fits := by obtain ⟨S, h, _⟩ := h; exact h.fits
theorem lone_write (i : Int) (s : ByteArray) (hn : n ≤ w.heap.size) (hw : D.writes ≤ 1073741824) (h : Lone n w B D) :
    Calls Tryd.prog 88 #[.pointer (some ⟨B, 0, none⟩), .int .i64 i, .string s] w fun e w' => e = .returned (.int .i64 (D.write i s).1) ∧ Lone n w' B (D.write i s).2 ∧ Below n w w' := by
  obtain ⟨S, h, hS⟩ := h
  refine (write_any i s hw h).mono ?_
  rintro e w' ⟨rfl, S', h', hS', hm⟩
  exact ⟨rfl, ⟨S', h', fun k hk => (hS' k hk).elim (hS k) (fun e => Nat.le_trans hn e)⟩, hm.toBelow hS hn⟩
theorem lone_flush (hn : n ≤ w.heap.size) (hw : D.writes ≤ 1073741824) (h : Lone n w B D) :
    Calls Tryd.prog 79 #[.pointer (some ⟨B, 0, none⟩)] w fun e w' => e = .returned (.int .i64 D.flush.1) ∧ Lone n w' B D.flush.2 ∧ Below n w w' := by
  obtain ⟨S, h, hS⟩ := h
  refine (flush_any h (by omega)).mono ?_
  rintro e w' ⟨rfl, h', hm⟩
  exact ⟨rfl, ⟨S, h', hS⟩, hm.toBelow hS hn⟩
theorem lone_fall (i : Int) (hi : i ≤ 9223372036854775807) (hn : n ≤ w.heap.size) (h : Lone n w B D) :
    Calls Tryd.prog 20 #[.pointer (some ⟨B, 0, none⟩), .int .i64 i] w fun e w' => e = .returned (.tuple #[]) ∧ Lone n w' B (D.fall i) ∧ Below n w w' := by
  obtain ⟨S, h, hS⟩ := h
  refine (fall_any i hi h).mono ?_
  rintro e w' ⟨rfl, h', hm⟩
  exact ⟨rfl, ⟨S, h', hS⟩, hm.toBelow hS hn⟩
theorem lone_read (i : Int) (hw : D.writes ≤ 1073741824) (h : Lone n w B D) :
    Calls Tryd.prog 51 #[.pointer (some ⟨B, 0, none⟩), .int .i64 i] w fun e w' => e = .returned (two (D.read i)) ∧ Below w.heap.size w w' := by
  obtain ⟨S, h, hS⟩ := h
  exact read_any i h (by omega)
theorem lone_down (h : Lone n w B D) : Calls Tryd.prog 59 #[.pointer (some ⟨B, 0, none⟩)] w fun e w' => e = .returned (.bool D.down) ∧ w = w' := by
  obtain ⟨S, h, hS⟩ := h
  exact down_any h
theorem lone_size (h : Lone n w B D) : Calls Tryd.prog 56 #[.pointer (some ⟨B, 0, none⟩)] w fun e w' => e = .returned (.int .i64 D.bs.length) ∧ w = w' := by
  obtain ⟨S, h, hS⟩ := h
  exact size_any h
theorem lone_crash (fv : Value) (zs : List Int) (hw : D.writes ≤ 1073741824) (h : Lone n w B D) (hz : Fts w fv zs) :
    Calls Tryd.prog 28 #[.pointer (some ⟨B, 0, none⟩), fv] w fun e w' => NewDev (D.crash zs) w e w' := by
  obtain ⟨S, h, hS⟩ := h
  exact crash_any fv zs (by omega) h hz
end
theorem Fts.nil (w : World) : Fts w (.slice none 0 0) [] := ⟨_, _, rfl, Nat.zero_le _, .inl rfl⟩
theorem Fts.one (w : World) (z : Int) (t : TypeId) : Fts (w.alloc (.cells #[.int .i64 z] t)) (.slice (some ⟨w.heap.size, 0, none⟩) 1 1) [z] :=
  ⟨_, _, rfl, (show 1 ≤ maxLen by decide), .inr ⟨w.heap.size, 0, rfl, by simp, fun j hj => by
    obtain rfl : j = 0 := by simp at hj; omega
    exact cell_of (World.alloc_heap_new w _) rfl⟩⟩

end Go.Proofs.YtpjbkeheemhlnaaDoor
