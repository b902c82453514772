/- A device alone among what a call has made; the document's example (head). No conditions beyond those in each statement. -/
import Derived.Test.YtmfkbddfjfjfkaaDevCrash
namespace Go.Proofs.Ytmfkbddfjfjfkaa
open Go.RowKit
set_option linter.unusedVariables false

/-- A device whose blocks lie from n on. -/
def Lone (n : Nat) (w : World) (B : Nat) (D : Dv) : Prop := ∃ S, DevAt S w B D ∧ ∀ k, S k → n ≤ k
section
variable {n : Nat} {w x : World} {B : Nat} {D D' : Dv}
theorem Lone.below (h : Lone n w B D) (hb : Below w.heap.size w x) : Lone n x B D := by
  obtain ⟨S, h, hS⟩ := h
  exact ⟨S, h.below hb, hS⟩
theorem lone_new (h : DevAt (span w.heap.size x.heap.size) x B D) (hn : n ≤ w.heap.size) : Lone n x B D := ⟨_, h, fun k hk => Nat.le_trans hn hk.1⟩
theorem Lone.fits (h : Lone n w B D) : D.Fits := by obtain ⟨S, h, _⟩ := h; exact h.fits
theorem lone_write (i : Int) (s : ByteArray) (hn : n ≤ w.heap.size) (hw : D.writes ≤ 1073741824) (h : Lone n w B D) :
    Calls Try.prog 18 #[.pointer (some ⟨B, 0, none⟩), .int .i64 i, .string s] w fun e w' => e = .returned (.int .i64 (D.write i s).1) ∧ Lone n w' B (D.write i s).2 ∧ Below n w w' := by
  obtain ⟨S, h, hS⟩ := h
  refine (write_any i s hw h).mono ?_
  rintro e w' ⟨rfl, S', h', hS', hm⟩
  exact ⟨rfl, ⟨S', h', fun k hk => (hS' k hk).elim (hS k) (fun e => Nat.le_trans hn e)⟩, hm.toBelow hS hn⟩
theorem lone_flush (hn : n ≤ w.heap.size) (hw : D.writes ≤ 1073741824) (h : Lone n w B D) :
    Calls Try.prog 20 #[.pointer (some ⟨B, 0, none⟩)] w fun e w' => e = .returned (.int .i64 D.flush.1) ∧ Lone n w' B D.flush.2 ∧ Below n w w' := by
  obtain ⟨S, h, hS⟩ := h
  refine (flush_any h (by omega)).mono ?_
  rintro e w' ⟨rfl, h', hm⟩
  exact ⟨rfl, ⟨S, h', hS⟩, hm.toBelow hS hn⟩
theorem lone_fall (i : Int) (hi : i ≤ 9223372036854775807) (hn : n ≤ w.heap.size) (h : Lone n w B D) :
    Calls Try.prog 22 #[.pointer (some ⟨B, 0, none⟩), .int .i64 i] w fun e w' => e = .returned (.tuple #[]) ∧ Lone n w' B (D.fall i) ∧ Below n w w' := by
  obtain ⟨S, h, hS⟩ := h
  refine (fall_any i hi h).mono ?_
  rintro e w' ⟨rfl, h', hm⟩
  exact ⟨rfl, ⟨S, h', hS⟩, hm.toBelow hS hn⟩
theorem lone_read (i : Int) (hw : D.writes ≤ 1073741824) (h : Lone n w B D) :
    Calls Try.prog 19 #[.pointer (some ⟨B, 0, none⟩), .int .i64 i] w fun e w' => e = .returned (two (D.read i)) ∧ Below w.heap.size w w' := by
  obtain ⟨S, h, hS⟩ := h
  exact read_any i h (by omega)
theorem lone_down (h : Lone n w B D) : Calls Try.prog 21 #[.pointer (some ⟨B, 0, none⟩)] w fun e w' => e = .returned (.bool D.down) ∧ w = w' := by
  obtain ⟨S, h, hS⟩ := h
  exact down_any h
theorem lone_size (h : Lone n w B D) : Calls Try.prog 15 #[.pointer (some ⟨B, 0, none⟩)] w fun e w' => e = .returned (.int .i64 D.bs.length) ∧ w = w' := by
  obtain ⟨S, h, hS⟩ := h
  exact size_any h
theorem lone_crash (fv : Value) (zs : List Int) (hw : D.writes ≤ 1073741824) (h : Lone n w B D) (hz : Fts w fv zs) :
    Calls Try.prog 16 #[.pointer (some ⟨B, 0, none⟩), fv] w fun e w' => NewDev (D.crash zs) w e w' := by
  obtain ⟨S, h, hS⟩ := h
  exact crash_any fv zs (by omega) h hz
end
theorem Fts.nil (w : World) : Fts w (.slice none 0 0) [] := ⟨_, _, rfl, Nat.zero_le _, .inl rfl⟩
theorem Fts.one (w : World) (z : Int) (t : TypeId) : Fts (w.alloc (.cells #[.int .i64 z] t)) (.slice (some ⟨w.heap.size, 0, none⟩) 1 1) [z] :=
  ⟨_, _, rfl, (show 1 ≤ maxLen by decide), .inr ⟨w.heap.size, 0, rfl, by simp, fun j hj => by
    obtain rfl : j = 0 := by simp at hj; omega
    exact cell_of (World.alloc_heap_new w _) rfl⟩⟩

def hd0 : Dv := Dv.new 3
def hd1 : Dv := (hd0.write 1 ⟨#[97, 98, 99, 100]⟩).2
def hd2 : Dv := hd1.flush.2
def hd3 : Dv := (hd2.write 1 ⟨#[119, 120, 121, 122]⟩).2
theorem head_any (w : World) : Calls Try.prog 8 #[] w fun e w' => e = .returned (.bool true) ∧ Below w.heap.size w w' := by
  have e1 : (hd0.write 1 ⟨#[97, 98, 99, 100]⟩).1 = 0 := by kernel_rfl
  have e2 : hd1.flush.1 = 0 := by kernel_rfl
  have e3 : (hd2.write 1 ⟨#[119, 120, 121, 122]⟩).1 = 0 := by kernel_rfl
  have e4 : (hd3.crash [2]).read 1 = (⟨#[119, 120]⟩, 0) := by kernel_rfl
  have e5 : (hd3.crash []).read 1 = (⟨#[97, 98, 99, 100]⟩, 0) := by kernel_rfl
  have w0 : hd0.writes ≤ 1073741824 := by decide
  have w1 : hd1.writes ≤ 1073741824 := by decide +kernel
  have w2 : hd2.writes ≤ 1073741824 := by decide +kernel
  have w3 : hd3.writes ≤ 1073741824 := by decide +kernel
  have HW1 := Lib.hid (fun (W : World) (B : Nat) (hn : w.heap.size ≤ W.heap.size) (h : Lone w.heap.size W B hd0) => by have := lone_write 1 ⟨#[97, 98, 99, 100]⟩ hn w0 h; rwa [e1] at this)
  have HW2 := Lib.hid (fun (W : World) (B : Nat) (hn : w.heap.size ≤ W.heap.size) (h : Lone w.heap.size W B hd1) => by have := lone_flush hn w1 h; rwa [e2] at this)
  have HW3 := Lib.hid (fun (W : World) (B : Nat) (hn : w.heap.size ≤ W.heap.size) (h : Lone w.heap.size W B hd2) => by have := lone_write 1 ⟨#[119, 120, 121, 122]⟩ hn w2 h; rwa [e3] at this)
  have HR1 := Lib.hid (fun (W : World) (B : Nat) (h : Lone w.heap.size W B (hd3.crash [2])) => by have := lone_read 1 (Nat.zero_le _) h; rwa [e4] at this)
  have HR2 := Lib.hid (fun (W : World) (B : Nat) (h : Lone w.heap.size W B (hd3.crash [])) => by have := lone_read 1 (Nat.zero_le _) h; rwa [e5] at this)
  have W3 := Lib.hid w3
  have hnew : Calls Try.prog 10 #[.int .i64 3] w fun e w' => NewDev hd0 w e w' := new_any 3 w
  clear e1 e2 e3 e4 e5 w0 w1 w2 w3
  go_enter Try.func8, Try.ntmps8
  go_wp2_with fail
  refine hnew.mono ?_
  rintro e x1 ⟨B, rfl, h1, b1⟩
  clear hnew
  go_wp2_with fail
  refine (HW1.out x1 B b1.size (lone_new h1 (Nat.le_refl _))).mono ?_
  rintro e x2 ⟨rfl, h2, b2⟩
  have c2 := b1.trans b2
  clear h1 b1 b2
  go_wp2_with fail
  refine (HW2.out x2 B c2.size h2).mono ?_
  rintro e x3 ⟨rfl, h3, b3⟩
  have c3 := c2.trans b3
  clear h2 b3 c2
  go_wp2_with fail
  refine (HW3.out x3 B c3.size h3).mono ?_
  rintro e x4 ⟨rfl, h4, b4⟩
  have c4 := c3.trans b4
  clear h3 b4 c3
  go_wp2_with fail
  refine (lone_crash _ [2] W3.out (h4.below ((Below.refl _ _).alloc (Nat.le_refl _) _)) (Fts.one x4 2 _)).mono ?_
  rintro e x5 ⟨B5, rfl, h5, b5⟩
  have d5 : Below x4.heap.size x4 x5 := ((Below.refl x4.heap.size x4).alloc (Nat.le_refl _) _).trans (b5.mono (by simp))
  go_wp2_with fail
  refine (HR1.out x5 B5 (lone_new h5 (by have := c4.size; simp; omega))).mono ?_
  rintro e x6 ⟨rfl, b6⟩
  have d6 : Below x4.heap.size x4 x6 := d5.trans (b6.mono d5.size)
  clear h5 b5 d5 b6
  go_wp2_with fail
  refine (lone_crash _ [] W3.out (h4.below d6) (Fts.nil x6)).mono ?_
  rintro e x7 ⟨B7, rfl, h7, b7⟩
  go_wp2_with fail
  refine (HR2.out x7 B7 (lone_new h7 (by have := c4.size; have := d6.size; omega))).mono ?_
  rintro e x8 ⟨rfl, b8⟩
  have d8 : Below x4.heap.size x4 x8 := d6.trans ((b7.trans (b8.mono b7.size)).mono d6.size)
  clear h7 b7 b8 d6 h4
  go_wp2
  go_ret
  exact ⟨rfl, c4.trans (d8.mono c4.size)⟩
end Go.Proofs.Ytmfkbddfjfjfkaa
