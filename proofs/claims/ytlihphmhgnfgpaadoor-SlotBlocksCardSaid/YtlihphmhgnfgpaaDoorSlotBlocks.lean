/- SlotBlocks: what a block of a device holds, written, damaged by a flip of any bits or lost, and written again; the power gone; no condition on the input (the two tables start as the program's text lays them). -/
import Derived.Test.YtlihphmhgnfgpaaDoorDevW
import Derived.Test.YtlihphmhgnfgpaaDoorCards
import Derived.Test.YtlihphmhgnfgpaaDoorTie
import Derived.ProofKit
import Derived.OpenShut
import Derived.ShutString
import Derived.ChangeOld
import Derived.Deep.DeepHandedRow
import Derived.Lib.LaidTab
import Derived.Stop.LaidErr
namespace Go.Proofs.YtlihphmhgnfgpaaDoor.slotBlocks
open Go.ChangeShapes Go.WideShapes Go.ChangeAt Go.RowKit
open Go.ChangeMaps (open_string shut_string)
set_option linter.unusedVariables false
set_option maxRecDepth 100000

theorem flip_is {r : Rc} (ho : r.Ok) (a : Int) (bt : Nat) (h0 : bt ≠ 0) : Blk.flip ⟨r.bytes, false, false, []⟩ a bt = ⟨flipS r.bytes a bt, true, false, []⟩ := by
  have hs := bytes_size ho
  unfold Blk.flip
  rw [if_neg]
  rintro (h | h | h)
  · exact h0 h
  · simp only at h; omega
  · cases h

set_option maxHeartbeats 4000000 in
theorem walk (v0 : Value) (r : Rc) (x1 x2 x3 : Int) (a4 : Bool) (w : World) (w0 : v0 = recV r ∧ r.Fits) (w1 : (Lit.int .i64 x1).wf = true) (w2 : (Lit.int .i64 x2).wf = true) (w3 : (Lit.int .u8 x3).wf = true) (hT : Tabs w) :
    Calls Tryd.prog 5 #[v0, .int .i64 x1, .int .i64 x2, .int .u8 x3, .bool a4] w fun e w' => e = .returned (.bool true) ∧ Below w.heap.size w w' := by
  obtain ⟨rfl, fr⟩ := w0
  have hx2 := i64_wf w2
  have hx3 := (Lit.wf_int_iff .u8 x3).1 w3
  rw [show IntKind.u8.min = 0 by decide, show IntKind.u8.max = 255 by decide] at hx3
  have n0 := RecB.new w r
  have b0 := (Below.refl _ w).alloc (Nat.le_refl _) (.cells #[.int .i64 r.kind, .int .i64 r.index, .int .i64 r.term, .string r.data] 23)
  have HH := Lib.hid (head4_any _ (hT.below b0))
  have HT := Lib.hid hT
  have mr := fr.data
  unfold maxLen at mr
  have hand := i64_and7
  obtain ⟨k, hkx⟩ := Int.eq_ofNat_of_zero_le (Int.emod_nonneg x1 (show (8 : Int) ≠ 0 by decide))
  have hk : k < 8 := by have := Int.emod_lt_of_pos x1 (show (0 : Int) < 8 by decide); omega
  clear hT fr w1 w2 w3
  by_cases hd : 488 < r.data.size
  · have e1 : decide ((488 : Int) < (r.data.size : Int)) = true := by simp; omega
    unfold recV
    go_enter Tryd.func5, Tryd.ntmps5
    go_wp2_with fail
    refine HH.out.mono ?_
    rintro e w1 ⟨rfl, hb1⟩
    obtain ⟨⟨c0, c1, c2, c3⟩, _⟩ := (n0.below hb1).cells
    go_wp2_with fail
    go_ret
    exact ⟨by simp, b0.trans (hb1.mono b0.size)⟩
  · have e1 : decide ((488 : Int) < (r.data.size : Int)) = false := by simp; omega
    have H1 := Lib.hid (fun (W : World) (B : Nat) (E : Nat → Prop) (hT : Tabs W) (h : DevW w.heap.size E W B (DB 8 k 0 blk0)) => show Calls Tryd.prog 19 #[.pointer (some ⟨B, 0, none⟩), .int .i64 (k : Int)] W fun e w' => e = .returned (.tuple #[.agg #[.int .i64 0, .int .i64 0, .int .i64 0, .string ⟨#[]⟩], .int .i64 0, .int .i64 0]) ∧ Below W.heap.size W w' from by
      have := devw_sread (k : Int) hT (Nat.zero_le _) h; rw [DB_read 8 k 0 blk0 hk rfl] at this; exact this)
    have heq := eq_recn r
    by_cases hn : r.Num
    · have ho : r.Ok := ⟨hn, by omega⟩
      clear hn hd
      cases a4 with
      | true =>
        obtain ⟨D1, hD1⟩ : ∃ D, D = DB 8 k (0 + 1) (blk0.write 0 r.bytes) := ⟨_, rfl⟩
        obtain ⟨D2, hD2⟩ : ∃ D, D = DB 8 k 0 ⟨r.bytes, false, false, []⟩ := ⟨_, rfl⟩
        obtain ⟨D3, hD3⟩ : ∃ D, D = DB 8 k 0 ⟨r.bytes, false, true, []⟩ := ⟨_, rfl⟩
        obtain ⟨D4, hD4⟩ : ∃ D, D = DB 8 k (0 + 1) (Blk.write ⟨r.bytes, false, true, []⟩ 0 r.bytes) := ⟨_, rfl⟩
        obtain ⟨D5, hD5⟩ : ∃ D, D = (D4.fall 0).flush.2 := ⟨_, rfl⟩
        have H2 := Lib.hid (fun (W : World) (B : Nat) (E : Nat → Prop) (hn : w.heap.size ≤ W.heap.size) (hT : Tabs W) (h : DevW w.heap.size E W B (DB 8 k 0 blk0)) => show Calls Tryd.prog 20 #[.pointer (some ⟨B, 0, none⟩), .int .i64 (k : Int), recV r] W fun e w' => e = .returned (.int .i64 0) ∧ DevW w.heap.size E w' B D1 ∧ Below w.heap.size W w' ∧ Kept E W w' from by
          subst hD5; subst hD4; subst hD3; subst hD2; subst hD1
          have := devw_swrite (k : Int) r hn hT (Nat.zero_le _) h; rw [DB_write 8 k 0 blk0 hk ho] at this; exact this)
        have H3 := Lib.hid (fun (W : World) (B : Nat) (E : Nat → Prop) (hT : Tabs W) (h : DevW w.heap.size E W B D1) => show Calls Tryd.prog 19 #[.pointer (some ⟨B, 0, none⟩), .int .i64 (k : Int)] W fun e w' => e = .returned (.tuple #[.agg #[.int .i64 r.kind, .int .i64 r.index, .int .i64 r.term, .string r.data], .int .i64 1, .int .i64 0]) ∧ Below W.heap.size W w' from by
          subst hD5; subst hD4; subst hD3; subst hD2; subst hD1
          have := devw_sread (k : Int) hT (show 0 + 1 ≤ 1073741824 by decide) h; rw [DB_read 8 k (0 + 1) _ hk rfl, write_contents, get_put ho] at this; exact this)
        have H4 := Lib.hid (fun (W : World) (B : Nat) (E : Nat → Prop) (hn : w.heap.size ≤ W.heap.size) (h : DevW w.heap.size E W B D1) => show Calls Tryd.prog 21 #[.pointer (some ⟨B, 0, none⟩)] W fun e w' => e = .returned (.int .i64 0) ∧ DevW w.heap.size E w' B D2 ∧ Below w.heap.size W w' ∧ Kept E W w' from by
          subst hD5; subst hD4; subst hD3; subst hD2; subst hD1
          have := devw_flush hn (show 0 + 1 ≤ 1073741824 by decide) h; rw [DB_flush, write_flush] at this; exact this)
        have H5 := Lib.hid (fun (W : World) (B : Nat) (E : Nat → Prop) (hn : w.heap.size ≤ W.heap.size) (h : DevW w.heap.size E W B D2) => show Calls Tryd.prog 22 #[.pointer (some ⟨B, 0, none⟩), .int .i64 (k : Int)] W fun e w' => e = .returned (.tuple #[]) ∧ DevW w.heap.size E w' B D3 ∧ Below w.heap.size W w' ∧ Kept E W w' from by
          subst hD5; subst hD4; subst hD3; subst hD2; subst hD1
          have := devw_lose (k : Int) hn h; rw [DB_on 8 k 0 _ _ hk] at this; exact this)
        have H6 := Lib.hid (fun (W : World) (B : Nat) (E : Nat → Prop) (hT : Tabs W) (h : DevW w.heap.size E W B D3) => show Calls Tryd.prog 19 #[.pointer (some ⟨B, 0, none⟩), .int .i64 (k : Int)] W fun e w' => e = .returned (.tuple #[.agg #[.int .i64 0, .int .i64 0, .int .i64 0, .string ⟨#[]⟩], .int .i64 2, .int .i64 0]) ∧ Below W.heap.size W w' from by
          subst hD5; subst hD4; subst hD3; subst hD2; subst hD1
          have := devw_sread (k : Int) hT (Nat.zero_le _) h; rw [DB_lost 8 k 0 _ hk rfl] at this; exact this)
        have H7 := Lib.hid (fun (W : World) (B : Nat) (E : Nat → Prop) (hn : w.heap.size ≤ W.heap.size) (hT : Tabs W) (h : DevW w.heap.size E W B D3) => show Calls Tryd.prog 20 #[.pointer (some ⟨B, 0, none⟩), .int .i64 (k : Int), recV r] W fun e w' => e = .returned (.int .i64 0) ∧ DevW w.heap.size E w' B D4 ∧ Below w.heap.size W w' ∧ Kept E W w' from by
          subst hD5; subst hD4; subst hD3; subst hD2; subst hD1
          have := devw_swrite (k : Int) r hn hT (Nat.zero_le _) h; rw [DB_write 8 k 0 _ hk ho] at this; exact this)
        have H8 := Lib.hid (fun (W : World) (B : Nat) (E : Nat → Prop) (hT : Tabs W) (h : DevW w.heap.size E W B D4) => show Calls Tryd.prog 19 #[.pointer (some ⟨B, 0, none⟩), .int .i64 (k : Int)] W fun e w' => e = .returned (.tuple #[.agg #[.int .i64 r.kind, .int .i64 r.index, .int .i64 r.term, .string r.data], .int .i64 1, .int .i64 0]) ∧ Below W.heap.size W w' from by
          subst hD5; subst hD4; subst hD3; subst hD2; subst hD1
          have := devw_sread (k : Int) hT (show 0 + 1 ≤ 1073741824 by decide) h; rw [DB_read 8 k (0 + 1) _ hk rfl, write_contents, get_put ho] at this; exact this)
        have H9 := Lib.hid (fun (W : World) (B : Nat) (E : Nat → Prop) (hT : Tabs W) (h : DevW w.heap.size E W B D4) => show Calls Tryd.prog 19 #[.pointer (some ⟨B, 0, none⟩), .int .i64 8] W fun e w' => e = .returned (.tuple #[.agg #[.int .i64 0, .int .i64 0, .int .i64 0, .string ⟨#[]⟩], .int .i64 0, .int .i64 7]) ∧ Below W.heap.size W w' from by
          subst hD5; subst hD4; subst hD3; subst hD2; subst hD1
          have := devw_sread 8 hT (show 0 + 1 ≤ 1073741824 by decide) h; rw [sread_out 8 rfl (by simp [Dv.hasB, DB_len])] at this; exact this)
        have H10 := Lib.hid (fun (W : World) (B : Nat) (E : Nat → Prop) (hn : w.heap.size ≤ W.heap.size) (h : DevW w.heap.size E W B D4) => show Calls Tryd.prog 24 #[.pointer (some ⟨B, 0, none⟩), .int .i64 0] W fun e w' => e = .returned (.tuple #[]) ∧ DevW w.heap.size E w' B (D4.fall 0) ∧ Below w.heap.size W w' ∧ Kept E W w' from by
          subst hD5; subst hD4; subst hD3; subst hD2; subst hD1
          exact devw_fall 0 (by decide) hn h)
        have H11 := Lib.hid (fun (W : World) (B : Nat) (E : Nat → Prop) (hn : w.heap.size ≤ W.heap.size) (h : DevW w.heap.size E W B (D4.fall 0)) => show Calls Tryd.prog 21 #[.pointer (some ⟨B, 0, none⟩)] W fun e w' => e = .returned (.int .i64 5) ∧ DevW w.heap.size E w' B D5 ∧ Below w.heap.size W w' ∧ Kept E W w' from by
          subst hD5; subst hD4; subst hD3; subst hD2; subst hD1
          have := devw_flush hn (show 0 + 1 ≤ 1073741824 by decide) h; exact this)
        have H12 := Lib.hid (fun (W : World) (B : Nat) (E : Nat → Prop) (hT : Tabs W) (h : DevW w.heap.size E W B D5) => show Calls Tryd.prog 19 #[.pointer (some ⟨B, 0, none⟩), .int .i64 (k : Int)] W fun e w' => e = .returned (.tuple #[.agg #[.int .i64 0, .int .i64 0, .int .i64 0, .string ⟨#[]⟩], .int .i64 0, .int .i64 5]) ∧ Below W.heap.size W w' from by
          subst hD5; subst hD4; subst hD3; subst hD2; subst hD1
          have := devw_sread (k : Int) hT (show 0 + 1 ≤ 1073741824 by decide) h; rw [sread_down (k : Int) rfl] at this; exact this)
        have H13 := Lib.hid (fun (W : World) (B : Nat) (E : Nat → Prop) (hn : w.heap.size ≤ W.heap.size) (hT : Tabs W) (h : DevW w.heap.size E W B D5) => show Calls Tryd.prog 20 #[.pointer (some ⟨B, 0, none⟩), .int .i64 (k : Int), recV r] W fun e w' => e = .returned (.int .i64 5) ∧ DevW w.heap.size E w' B D5.op ∧ Below w.heap.size W w' ∧ Kept E W w' from by
          subst hD5; subst hD4; subst hD3; subst hD2; subst hD1
          have := devw_swrite (k : Int) r hn hT (show 0 + 1 ≤ 1073741824 by decide) h; rw [swrite_down (k : Int) ho rfl] at this; exact this)
        clear hD1 hD2 hD3 hD4 hD5
        unfold recV at *
        go_enter Tryd.func5, Tryd.ntmps5
        go_wp2_with fail
        refine HH.out.mono ?_
        rintro e w1 ⟨rfl, hb⟩
        have R1 := n0.below hb
        have B1 := b0.trans (hb.mono b0.size)
        obtain ⟨⟨c0, c1, c2, c3⟩, _⟩ := R1.cells
        clear hb n0 b0 HH
        go_wp2_with fail
        refine (new_any 8 w1).mono ?_
        rintro e w2 ⟨B, rfl, hd2, hb⟩
        rw [show Dv.new 8 = DB 8 k 0 blk0 from DB_new 8 k hk (by decide)] at hd2
        have X2 : DevW w.heap.size (fun j => j = w.heap.size) w2 B (DB 8 k 0 blk0) := devw_new hd2 B1.size (fun j hj => by rw [hj]; exact R1.lt) hb.size
        have R2 := R1.below hb
        have B2 := B1.trans (hb.mono B1.size)
        clear hd2 hb R1 B1
        obtain ⟨⟨c0, c1, c2, c3⟩, _⟩ := R2.cells
        go_wp2_with fail
        refine (H1.out _ _ _ (HT.out.below B2) X2).mono ?_
        rintro e u2 ⟨rfl, hb⟩
        have b3 := (Below.refl u2.heap.size u2).alloc (Nat.le_refl _) (.cells #[.int .i64 0, .int .i64 0, .int .i64 0, .string ⟨#[]⟩] 23)
        have R3 := (R2.below hb).below b3
        have N3 := RecB.new u2 ⟨0, 0, 0, ⟨#[]⟩⟩
        have B3 := (B2.trans (hb.mono B2.size)).trans (b3.mono (B2.trans (hb.mono B2.size)).size)
        have X3 := (X2.below hb).below b3
        obtain ⟨⟨n0, n1, n2, n3⟩, _⟩ := N3.cells
        obtain ⟨⟨c0, c1, c2, c3⟩, _⟩ := R3.cells
        clear hb b3 X2 R2 B2
        go_wp2_with fail
        refine (H2.out _ _ _ B3.size (HT.out.below B3) X3).mono ?_
        rintro e w4 ⟨rfl, X4, hb, hk⟩
        have R4 := R3.keep hk rfl
        have B4 := B3.trans hb
        obtain ⟨⟨c0, c1, c2, c3⟩, _⟩ := R4.cells
        clear hb hk X3 R3 B3
        go_wp2_with fail
        refine (H3.out _ _ _ (HT.out.below B4) X4).mono ?_
        rintro e u4 ⟨rfl, hb⟩
        have b3 := (Below.refl u4.heap.size u4).alloc (Nat.le_refl _) (.cells #[.int .i64 r.kind, .int .i64 r.index, .int .i64 r.term, .string r.data] 23)
        have R5 := (R4.below hb).below b3
        have N5 := RecB.new u4 r
        have B5 := (B4.trans (hb.mono B4.size)).trans (b3.mono (B4.trans (hb.mono B4.size)).size)
        have X5 := (X4.below hb).below b3
        obtain ⟨⟨n0, n1, n2, n3⟩, _⟩ := N5.cells
        obtain ⟨⟨c0, c1, c2, c3⟩, _⟩ := R5.cells
        clear hb b3 X4 R4 B4
        go_wp2_with fail
        refine (H4.out _ _ _ B5.size X5).mono ?_
        rintro e w6 ⟨rfl, X6, hb, hk⟩
        have R6 := R5.keep hk rfl
        have B6 := B5.trans hb
        obtain ⟨⟨c0, c1, c2, c3⟩, _⟩ := R6.cells
        clear hb hk X5 R5 B5
        go_wp2_with fail
        refine (H5.out _ _ _ B6.size X6).mono ?_
        rintro e w7 ⟨rfl, X7, hb, hk⟩
        have R7 := R6.keep hk rfl
        have B7 := B6.trans hb
        obtain ⟨⟨c0, c1, c2, c3⟩, _⟩ := R7.cells
        clear hb hk X6 R6 B6
        go_wp2_with fail
        refine (H6.out _ _ _ (HT.out.below B7) X7).mono ?_
        rintro e u7 ⟨rfl, hb⟩
        have b3 := (Below.refl u7.heap.size u7).alloc (Nat.le_refl _) (.cells #[.int .i64 0, .int .i64 0, .int .i64 0, .string ⟨#[]⟩] 23)
        have R8 := (R7.below hb).below b3
        have N8 := RecB.new u7 ⟨0, 0, 0, ⟨#[]⟩⟩
        have B8 := (B7.trans (hb.mono B7.size)).trans (b3.mono (B7.trans (hb.mono B7.size)).size)
        have X8 := (X7.below hb).below b3
        obtain ⟨⟨n0, n1, n2, n3⟩, _⟩ := N8.cells
        obtain ⟨⟨c0, c1, c2, c3⟩, _⟩ := R8.cells
        clear hb b3 X7 R7 B7
        go_wp2_with fail
        refine (H7.out _ _ _ B8.size (HT.out.below B8) X8).mono ?_
        rintro e w9 ⟨rfl, X9, hb, hk⟩
        have R9 := R8.keep hk rfl
        have B9 := B8.trans hb
        obtain ⟨⟨c0, c1, c2, c3⟩, _⟩ := R9.cells
        clear hb hk X8 R8 B8
        go_wp2_with fail
        refine (H8.out _ _ _ (HT.out.below B9) X9).mono ?_
        rintro e u9 ⟨rfl, hb⟩
        have b3 := (Below.refl u9.heap.size u9).alloc (Nat.le_refl _) (.cells #[.int .i64 r.kind, .int .i64 r.index, .int .i64 r.term, .string r.data] 23)
        have R10 := (R9.below hb).below b3
        have N10 := RecB.new u9 r
        have B10 := (B9.trans (hb.mono B9.size)).trans (b3.mono (B9.trans (hb.mono B9.size)).size)
        have X10 := (X9.below hb).alloc (.cells #[.int .i64 r.kind, .int .i64 r.index, .int .i64 r.term, .string r.data] 23)
        have Q10 := N10
        obtain ⟨⟨n0, n1, n2, n3⟩, _⟩ := N10.cells
        obtain ⟨⟨c0, c1, c2, c3⟩, _⟩ := R10.cells
        clear hb b3 X9 R9 B9
        go_wp2_with fail
        refine (H9.out _ _ _ (HT.out.below B10) X10).mono ?_
        rintro e u10 ⟨rfl, hb⟩
        have b3 := (Below.refl u10.heap.size u10).alloc (Nat.le_refl _) (.cells #[.int .i64 0, .int .i64 0, .int .i64 0, .string ⟨#[]⟩] 23)
        have R11 := (R10.below hb).below b3
        have N11 := RecB.new u10 ⟨0, 0, 0, ⟨#[]⟩⟩
        have B11 := (B10.trans (hb.mono B10.size)).trans (b3.mono (B10.trans (hb.mono B10.size)).size)
        have X11 := (X10.below hb).below b3
        have Q11 := (Q10.below hb).below b3
        obtain ⟨⟨n0, n1, n2, n3⟩, _⟩ := N11.cells
        obtain ⟨⟨c0, c1, c2, c3⟩, _⟩ := R11.cells
        clear hb b3 X10 R10 B10
        obtain ⟨⟨q0, q1, q2, q3⟩, _⟩ := Q11.cells
        clear Q10
        go_wp2_with fail
        refine (H10.out _ _ _ B11.size X11).mono ?_
        rintro e w12 ⟨rfl, X12, hb, hk⟩
        have R12 := R11.keep hk (.inl rfl)
        have B12 := B11.trans hb
        have Q12 := Q11.keep hk (.inr rfl)
        obtain ⟨⟨q0, q1, q2, q3⟩, _⟩ := Q12.cells
        clear Q11
        obtain ⟨⟨c0, c1, c2, c3⟩, _⟩ := R12.cells
        clear hb hk X11 R11 B11
        go_wp2_with fail
        refine (H11.out _ _ _ B12.size X12).mono ?_
        rintro e w13 ⟨rfl, X13, hb, hk⟩
        have R13 := R12.keep hk (.inl rfl)
        have B13 := B12.trans hb
        have Q13 := Q12.keep hk (.inr rfl)
        obtain ⟨⟨q0, q1, q2, q3⟩, _⟩ := Q13.cells
        clear Q12
        obtain ⟨⟨c0, c1, c2, c3⟩, _⟩ := R13.cells
        clear hb hk X12 R12 B12
        go_wp2_with fail
        refine (H12.out _ _ _ (HT.out.below B13) X13).mono ?_
        rintro e u13 ⟨rfl, hb⟩
        have b3 := (Below.refl u13.heap.size u13).alloc (Nat.le_refl _) (.cells #[.int .i64 0, .int .i64 0, .int .i64 0, .string ⟨#[]⟩] 23)
        have R14 := (R13.below hb).below b3
        have N14 := RecB.new u13 ⟨0, 0, 0, ⟨#[]⟩⟩
        have B14 := (B13.trans (hb.mono B13.size)).trans (b3.mono (B13.trans (hb.mono B13.size)).size)
        have X14 := (X13.below hb).below b3
        have Q14 := (Q13.below hb).below b3
        obtain ⟨⟨n0, n1, n2, n3⟩, _⟩ := N14.cells
        obtain ⟨⟨c0, c1, c2, c3⟩, _⟩ := R14.cells
        clear hb b3 X13 R13 B13
        obtain ⟨⟨q0, q1, q2, q3⟩, _⟩ := Q14.cells
        clear Q13
        go_wp2_with fail
        refine (H13.out _ _ _ B14.size (HT.out.below B14) X14).mono ?_
        rintro e w15 ⟨rfl, X15, hb, hk⟩
        go_wp2_with fail
        go_ret
        exact ⟨by simp, B14.trans hb⟩
      | false =>
        obtain ⟨bt, hbe, hbt0, hbt⟩ : ∃ bt : Nat, (if x3 = 0 then 1 else x3) = (bt : Int) ∧ bt ≠ 0 ∧ bt < 256 := ⟨(if x3 = 0 then 1 else x3).toNat, by split <;> omega, by split <;> omega, by split <;> omega⟩
        obtain ⟨bl, hbl⟩ : ∃ bl : Blk, bl = ⟨flipS r.bytes x2 bt, true, false, []⟩ := ⟨_, rfl⟩
        obtain ⟨D1, hD1⟩ : ∃ D, D = DB 8 k (0 + 1) (blk0.write 0 r.bytes) := ⟨_, rfl⟩
        obtain ⟨D2, hD2⟩ : ∃ D, D = DB 8 k 0 ⟨r.bytes, false, false, []⟩ := ⟨_, rfl⟩
        obtain ⟨D3, hD3⟩ : ∃ D, D = DB 8 k 0 bl := ⟨_, rfl⟩
        obtain ⟨D4, hD4⟩ : ∃ D, D = DB 8 k (0 + 1) (Blk.write bl 0 r.bytes) := ⟨_, rfl⟩
        obtain ⟨D5, hD5⟩ : ∃ D, D = (D4.fall 0).flush.2 := ⟨_, rfl⟩
        have H2 := Lib.hid (fun (W : World) (B : Nat) (E : Nat → Prop) (hn : w.heap.size ≤ W.heap.size) (hT : Tabs W) (h : DevW w.heap.size E W B (DB 8 k 0 blk0)) => show Calls Tryd.prog 20 #[.pointer (some ⟨B, 0, none⟩), .int .i64 (k : Int), recV r] W fun e w' => e = .returned (.int .i64 0) ∧ DevW w.heap.size E w' B D1 ∧ Below w.heap.size W w' ∧ Kept E W w' from by
          subst hD5; subst hD4; subst hD3; subst hD2; subst hD1
          have := devw_swrite (k : Int) r hn hT (Nat.zero_le _) h; rw [DB_write 8 k 0 blk0 hk ho] at this; exact this)
        have H3 := Lib.hid (fun (W : World) (B : Nat) (E : Nat → Prop) (hT : Tabs W) (h : DevW w.heap.size E W B D1) => show Calls Tryd.prog 19 #[.pointer (some ⟨B, 0, none⟩), .int .i64 (k : Int)] W fun e w' => e = .returned (.tuple #[.agg #[.int .i64 r.kind, .int .i64 r.index, .int .i64 r.term, .string r.data], .int .i64 1, .int .i64 0]) ∧ Below W.heap.size W w' from by
          subst hD5; subst hD4; subst hD3; subst hD2; subst hD1
          have := devw_sread (k : Int) hT (show 0 + 1 ≤ 1073741824 by decide) h; rw [DB_read 8 k (0 + 1) _ hk rfl, write_contents, get_put ho] at this; exact this)
        have H4 := Lib.hid (fun (W : World) (B : Nat) (E : Nat → Prop) (hn : w.heap.size ≤ W.heap.size) (h : DevW w.heap.size E W B D1) => show Calls Tryd.prog 21 #[.pointer (some ⟨B, 0, none⟩)] W fun e w' => e = .returned (.int .i64 0) ∧ DevW w.heap.size E w' B D2 ∧ Below w.heap.size W w' ∧ Kept E W w' from by
          subst hD5; subst hD4; subst hD3; subst hD2; subst hD1
          have := devw_flush hn (show 0 + 1 ≤ 1073741824 by decide) h; rw [DB_flush, write_flush] at this; exact this)
        have H5 := Lib.hid (fun (W : World) (B : Nat) (E : Nat → Prop) (hn : w.heap.size ≤ W.heap.size) (h : DevW w.heap.size E W B D2) => show Calls Tryd.prog 23 #[.pointer (some ⟨B, 0, none⟩), .int .i64 (k : Int), .int .i64 x2, .int .u8 (bt : Int)] W fun e w' => e = .returned (.tuple #[]) ∧ DevW w.heap.size E w' B D3 ∧ Below w.heap.size W w' ∧ Kept E W w' from by
          subst hD5; subst hD4; subst hD3; subst hD2; subst hD1
          have := devw_flip (k : Int) x2 bt hx2 hbt hn h; rw [DB_on 8 k 0 _ _ hk, show Blk.flip ⟨r.bytes, false, false, []⟩ x2 bt = bl by rw [hbl]; exact flip_is ho x2 bt hbt0] at this; exact this)
        have H6 := Lib.hid (fun (W : World) (B : Nat) (E : Nat → Prop) (hT : Tabs W) (h : DevW w.heap.size E W B D3) => show Calls Tryd.prog 19 #[.pointer (some ⟨B, 0, none⟩), .int .i64 (k : Int)] W fun e w' => e = .returned (.tuple #[.agg #[.int .i64 0, .int .i64 0, .int .i64 0, .string ⟨#[]⟩], .int .i64 2, .int .i64 0]) ∧ Below W.heap.size W w' from by
          subst hD5; subst hD4; subst hD3; subst hD2; subst hD1
          have := devw_sread (k : Int) hT (Nat.zero_le _) h; rw [DB_read 8 k 0 _ hk (by rw [hbl]), show getF bl.contents = (rc0, 2) by rw [hbl]; exact get_flipped ho x2 bt hbt0 hbt] at this; exact this)
        have H7 := Lib.hid (fun (W : World) (B : Nat) (E : Nat → Prop) (hn : w.heap.size ≤ W.heap.size) (hT : Tabs W) (h : DevW w.heap.size E W B D3) => show Calls Tryd.prog 20 #[.pointer (some ⟨B, 0, none⟩), .int .i64 (k : Int), recV r] W fun e w' => e = .returned (.int .i64 0) ∧ DevW w.heap.size E w' B D4 ∧ Below w.heap.size W w' ∧ Kept E W w' from by
          subst hD5; subst hD4; subst hD3; subst hD2; subst hD1
          have := devw_swrite (k : Int) r hn hT (Nat.zero_le _) h; rw [DB_write 8 k 0 _ hk ho] at this; exact this)
        have H8 := Lib.hid (fun (W : World) (B : Nat) (E : Nat → Prop) (hT : Tabs W) (h : DevW w.heap.size E W B D4) => show Calls Tryd.prog 19 #[.pointer (some ⟨B, 0, none⟩), .int .i64 (k : Int)] W fun e w' => e = .returned (.tuple #[.agg #[.int .i64 r.kind, .int .i64 r.index, .int .i64 r.term, .string r.data], .int .i64 1, .int .i64 0]) ∧ Below W.heap.size W w' from by
          subst hD5; subst hD4; subst hD3; subst hD2; subst hD1
          have := devw_sread (k : Int) hT (show 0 + 1 ≤ 1073741824 by decide) h; rw [DB_read 8 k (0 + 1) _ hk rfl, write_contents, get_put ho] at this; exact this)
        have H9 := Lib.hid (fun (W : World) (B : Nat) (E : Nat → Prop) (hT : Tabs W) (h : DevW w.heap.size E W B D4) => show Calls Tryd.prog 19 #[.pointer (some ⟨B, 0, none⟩), .int .i64 8] W fun e w' => e = .returned (.tuple #[.agg #[.int .i64 0, .int .i64 0, .int .i64 0, .string ⟨#[]⟩], .int .i64 0, .int .i64 7]) ∧ Below W.heap.size W w' from by
          subst hD5; subst hD4; subst hD3; subst hD2; subst hD1
          have := devw_sread 8 hT (show 0 + 1 ≤ 1073741824 by decide) h; rw [sread_out 8 rfl (by simp [Dv.hasB, DB_len])] at this; exact this)
        have H10 := Lib.hid (fun (W : World) (B : Nat) (E : Nat → Prop) (hn : w.heap.size ≤ W.heap.size) (h : DevW w.heap.size E W B D4) => show Calls Tryd.prog 24 #[.pointer (some ⟨B, 0, none⟩), .int .i64 0] W fun e w' => e = .returned (.tuple #[]) ∧ DevW w.heap.size E w' B (D4.fall 0) ∧ Below w.heap.size W w' ∧ Kept E W w' from by
          subst hD5; subst hD4; subst hD3; subst hD2; subst hD1
          exact devw_fall 0 (by decide) hn h)
        have H11 := Lib.hid (fun (W : World) (B : Nat) (E : Nat → Prop) (hn : w.heap.size ≤ W.heap.size) (h : DevW w.heap.size E W B (D4.fall 0)) => show Calls Tryd.prog 21 #[.pointer (some ⟨B, 0, none⟩)] W fun e w' => e = .returned (.int .i64 5) ∧ DevW w.heap.size E w' B D5 ∧ Below w.heap.size W w' ∧ Kept E W w' from by
          subst hD5; subst hD4; subst hD3; subst hD2; subst hD1
          have := devw_flush hn (show 0 + 1 ≤ 1073741824 by decide) h; exact this)
        have H12 := Lib.hid (fun (W : World) (B : Nat) (E : Nat → Prop) (hT : Tabs W) (h : DevW w.heap.size E W B D5) => show Calls Tryd.prog 19 #[.pointer (some ⟨B, 0, none⟩), .int .i64 (k : Int)] W fun e w' => e = .returned (.tuple #[.agg #[.int .i64 0, .int .i64 0, .int .i64 0, .string ⟨#[]⟩], .int .i64 0, .int .i64 5]) ∧ Below W.heap.size W w' from by
          subst hD5; subst hD4; subst hD3; subst hD2; subst hD1
          have := devw_sread (k : Int) hT (show 0 + 1 ≤ 1073741824 by decide) h; rw [sread_down (k : Int) rfl] at this; exact this)
        have H13 := Lib.hid (fun (W : World) (B : Nat) (E : Nat → Prop) (hn : w.heap.size ≤ W.heap.size) (hT : Tabs W) (h : DevW w.heap.size E W B D5) => show Calls Tryd.prog 20 #[.pointer (some ⟨B, 0, none⟩), .int .i64 (k : Int), recV r] W fun e w' => e = .returned (.int .i64 5) ∧ DevW w.heap.size E w' B D5.op ∧ Below w.heap.size W w' ∧ Kept E W w' from by
          subst hD5; subst hD4; subst hD3; subst hD2; subst hD1
          have := devw_swrite (k : Int) r hn hT (show 0 + 1 ≤ 1073741824 by decide) h; rw [swrite_down (k : Int) ho rfl] at this; exact this)
        clear hD1 hD2 hD3 hD4 hD5
        unfold recV at *
        clear hbl
        by_cases h0 : x3 = 0
        · rw [if_pos h0] at hbe
          rw [← hbe] at H5
          subst h0
          clear hbe
          go_enter Tryd.func5, Tryd.ntmps5
          go_wp2_with fail
          refine HH.out.mono ?_
          rintro e w1 ⟨rfl, hb⟩
          have R1 := n0.below hb
          have B1 := b0.trans (hb.mono b0.size)
          obtain ⟨⟨c0, c1, c2, c3⟩, _⟩ := R1.cells
          clear hb n0 b0 HH
          go_wp2_with fail
          refine (new_any 8 w1).mono ?_
          rintro e w2 ⟨B, rfl, hd2, hb⟩
          rw [show Dv.new 8 = DB 8 k 0 blk0 from DB_new 8 k hk (by decide)] at hd2
          have X2 : DevW w.heap.size (fun j => j = w.heap.size) w2 B (DB 8 k 0 blk0) := devw_new hd2 B1.size (fun j hj => by rw [hj]; exact R1.lt) hb.size
          have R2 := R1.below hb
          have B2 := B1.trans (hb.mono B1.size)
          clear hd2 hb R1 B1
          obtain ⟨⟨c0, c1, c2, c3⟩, _⟩ := R2.cells
          go_wp2_with fail
          refine (H1.out _ _ _ (HT.out.below B2) X2).mono ?_
          rintro e u2 ⟨rfl, hb⟩
          have b3 := (Below.refl u2.heap.size u2).alloc (Nat.le_refl _) (.cells #[.int .i64 0, .int .i64 0, .int .i64 0, .string ⟨#[]⟩] 23)
          have R3 := (R2.below hb).below b3
          have N3 := RecB.new u2 ⟨0, 0, 0, ⟨#[]⟩⟩
          have B3 := (B2.trans (hb.mono B2.size)).trans (b3.mono (B2.trans (hb.mono B2.size)).size)
          have X3 := (X2.below hb).below b3
          obtain ⟨⟨n0, n1, n2, n3⟩, _⟩ := N3.cells
          obtain ⟨⟨c0, c1, c2, c3⟩, _⟩ := R3.cells
          clear hb b3 X2 R2 B2
          go_wp2_with fail
          refine (H2.out _ _ _ B3.size (HT.out.below B3) X3).mono ?_
          rintro e w4 ⟨rfl, X4, hb, hk⟩
          have R4 := R3.keep hk rfl
          have B4 := B3.trans hb
          obtain ⟨⟨c0, c1, c2, c3⟩, _⟩ := R4.cells
          clear hb hk X3 R3 B3
          go_wp2_with fail
          refine (H3.out _ _ _ (HT.out.below B4) X4).mono ?_
          rintro e u4 ⟨rfl, hb⟩
          have b3 := (Below.refl u4.heap.size u4).alloc (Nat.le_refl _) (.cells #[.int .i64 r.kind, .int .i64 r.index, .int .i64 r.term, .string r.data] 23)
          have R5 := (R4.below hb).below b3
          have N5 := RecB.new u4 r
          have B5 := (B4.trans (hb.mono B4.size)).trans (b3.mono (B4.trans (hb.mono B4.size)).size)
          have X5 := (X4.below hb).below b3
          obtain ⟨⟨n0, n1, n2, n3⟩, _⟩ := N5.cells
          obtain ⟨⟨c0, c1, c2, c3⟩, _⟩ := R5.cells
          clear hb b3 X4 R4 B4
          go_wp2_with fail
          refine (H4.out _ _ _ B5.size X5).mono ?_
          rintro e w6 ⟨rfl, X6, hb, hk⟩
          have R6 := R5.keep hk rfl
          have B6 := B5.trans hb
          obtain ⟨⟨c0, c1, c2, c3⟩, _⟩ := R6.cells
          clear hb hk X5 R5 B5
          go_wp2_with fail
          refine (H5.out _ _ _ B6.size X6).mono ?_
          rintro e w7 ⟨rfl, X7, hb, hk⟩
          have R7 := R6.keep hk rfl
          have B7 := B6.trans hb
          obtain ⟨⟨c0, c1, c2, c3⟩, _⟩ := R7.cells
          clear hb hk X6 R6 B6
          go_wp2_with fail
          refine (H6.out _ _ _ (HT.out.below B7) X7).mono ?_
          rintro e u7 ⟨rfl, hb⟩
          have b3 := (Below.refl u7.heap.size u7).alloc (Nat.le_refl _) (.cells #[.int .i64 0, .int .i64 0, .int .i64 0, .string ⟨#[]⟩] 23)
          have R8 := (R7.below hb).below b3
          have N8 := RecB.new u7 ⟨0, 0, 0, ⟨#[]⟩⟩
          have B8 := (B7.trans (hb.mono B7.size)).trans (b3.mono (B7.trans (hb.mono B7.size)).size)
          have X8 := (X7.below hb).below b3
          obtain ⟨⟨n0, n1, n2, n3⟩, _⟩ := N8.cells
          obtain ⟨⟨c0, c1, c2, c3⟩, _⟩ := R8.cells
          clear hb b3 X7 R7 B7
          go_wp2_with fail
          refine (H7.out _ _ _ B8.size (HT.out.below B8) X8).mono ?_
          rintro e w9 ⟨rfl, X9, hb, hk⟩
          have R9 := R8.keep hk rfl
          have B9 := B8.trans hb
          obtain ⟨⟨c0, c1, c2, c3⟩, _⟩ := R9.cells
          clear hb hk X8 R8 B8
          go_wp2_with fail
          refine (H8.out _ _ _ (HT.out.below B9) X9).mono ?_
          rintro e u9 ⟨rfl, hb⟩
          have b3 := (Below.refl u9.heap.size u9).alloc (Nat.le_refl _) (.cells #[.int .i64 r.kind, .int .i64 r.index, .int .i64 r.term, .string r.data] 23)
          have R10 := (R9.below hb).below b3
          have N10 := RecB.new u9 r
          have B10 := (B9.trans (hb.mono B9.size)).trans (b3.mono (B9.trans (hb.mono B9.size)).size)
          have X10 := (X9.below hb).alloc (.cells #[.int .i64 r.kind, .int .i64 r.index, .int .i64 r.term, .string r.data] 23)
          have Q10 := N10
          obtain ⟨⟨n0, n1, n2, n3⟩, _⟩ := N10.cells
          obtain ⟨⟨c0, c1, c2, c3⟩, _⟩ := R10.cells
          clear hb b3 X9 R9 B9
          go_wp2_with fail
          refine (H9.out _ _ _ (HT.out.below B10) X10).mono ?_
          rintro e u10 ⟨rfl, hb⟩
          have b3 := (Below.refl u10.heap.size u10).alloc (Nat.le_refl _) (.cells #[.int .i64 0, .int .i64 0, .int .i64 0, .string ⟨#[]⟩] 23)
          have R11 := (R10.below hb).below b3
          have N11 := RecB.new u10 ⟨0, 0, 0, ⟨#[]⟩⟩
          have B11 := (B10.trans (hb.mono B10.size)).trans (b3.mono (B10.trans (hb.mono B10.size)).size)
          have X11 := (X10.below hb).below b3
          have Q11 := (Q10.below hb).below b3
          obtain ⟨⟨n0, n1, n2, n3⟩, _⟩ := N11.cells
          obtain ⟨⟨c0, c1, c2, c3⟩, _⟩ := R11.cells
          clear hb b3 X10 R10 B10
          obtain ⟨⟨q0, q1, q2, q3⟩, _⟩ := Q11.cells
          clear Q10
          go_wp2_with fail
          refine (H10.out _ _ _ B11.size X11).mono ?_
          rintro e w12 ⟨rfl, X12, hb, hk⟩
          have R12 := R11.keep hk (.inl rfl)
          have B12 := B11.trans hb
          have Q12 := Q11.keep hk (.inr rfl)
          obtain ⟨⟨q0, q1, q2, q3⟩, _⟩ := Q12.cells
          clear Q11
          obtain ⟨⟨c0, c1, c2, c3⟩, _⟩ := R12.cells
          clear hb hk X11 R11 B11
          go_wp2_with fail
          refine (H11.out _ _ _ B12.size X12).mono ?_
          rintro e w13 ⟨rfl, X13, hb, hk⟩
          have R13 := R12.keep hk (.inl rfl)
          have B13 := B12.trans hb
          have Q13 := Q12.keep hk (.inr rfl)
          obtain ⟨⟨q0, q1, q2, q3⟩, _⟩ := Q13.cells
          clear Q12
          obtain ⟨⟨c0, c1, c2, c3⟩, _⟩ := R13.cells
          clear hb hk X12 R12 B12
          go_wp2_with fail
          refine (H12.out _ _ _ (HT.out.below B13) X13).mono ?_
          rintro e u13 ⟨rfl, hb⟩
          have b3 := (Below.refl u13.heap.size u13).alloc (Nat.le_refl _) (.cells #[.int .i64 0, .int .i64 0, .int .i64 0, .string ⟨#[]⟩] 23)
          have R14 := (R13.below hb).below b3
          have N14 := RecB.new u13 ⟨0, 0, 0, ⟨#[]⟩⟩
          have B14 := (B13.trans (hb.mono B13.size)).trans (b3.mono (B13.trans (hb.mono B13.size)).size)
          have X14 := (X13.below hb).below b3
          have Q14 := (Q13.below hb).below b3
          obtain ⟨⟨n0, n1, n2, n3⟩, _⟩ := N14.cells
          obtain ⟨⟨c0, c1, c2, c3⟩, _⟩ := R14.cells
          clear hb b3 X13 R13 B13
          obtain ⟨⟨q0, q1, q2, q3⟩, _⟩ := Q14.cells
          clear Q13
          go_wp2_with fail
          refine (H13.out _ _ _ B14.size (HT.out.below B14) X14).mono ?_
          rintro e w15 ⟨rfl, X15, hb, hk⟩
          go_wp2_with fail
          go_ret
          exact ⟨by simp, B14.trans hb⟩
        · rw [if_neg h0] at hbe
          have e3 : (x3 == 0) = false := by simpa using h0
          rw [← hbe] at H5
          clear hbe
          go_enter Tryd.func5, Tryd.ntmps5
          go_wp2_with fail
          refine HH.out.mono ?_
          rintro e w1 ⟨rfl, hb⟩
          have R1 := n0.below hb
          have B1 := b0.trans (hb.mono b0.size)
          obtain ⟨⟨c0, c1, c2, c3⟩, _⟩ := R1.cells
          clear hb n0 b0 HH
          go_wp2_with fail
          refine (new_any 8 w1).mono ?_
          rintro e w2 ⟨B, rfl, hd2, hb⟩
          rw [show Dv.new 8 = DB 8 k 0 blk0 from DB_new 8 k hk (by decide)] at hd2
          have X2 : DevW w.heap.size (fun j => j = w.heap.size) w2 B (DB 8 k 0 blk0) := devw_new hd2 B1.size (fun j hj => by rw [hj]; exact R1.lt) hb.size
          have R2 := R1.below hb
          have B2 := B1.trans (hb.mono B1.size)
          clear hd2 hb R1 B1
          obtain ⟨⟨c0, c1, c2, c3⟩, _⟩ := R2.cells
          go_wp2_with fail
          refine (H1.out _ _ _ (HT.out.below B2) X2).mono ?_
          rintro e u2 ⟨rfl, hb⟩
          have b3 := (Below.refl u2.heap.size u2).alloc (Nat.le_refl _) (.cells #[.int .i64 0, .int .i64 0, .int .i64 0, .string ⟨#[]⟩] 23)
          have R3 := (R2.below hb).below b3
          have N3 := RecB.new u2 ⟨0, 0, 0, ⟨#[]⟩⟩
          have B3 := (B2.trans (hb.mono B2.size)).trans (b3.mono (B2.trans (hb.mono B2.size)).size)
          have X3 := (X2.below hb).below b3
          obtain ⟨⟨n0, n1, n2, n3⟩, _⟩ := N3.cells
          obtain ⟨⟨c0, c1, c2, c3⟩, _⟩ := R3.cells
          clear hb b3 X2 R2 B2
          go_wp2_with fail
          refine (H2.out _ _ _ B3.size (HT.out.below B3) X3).mono ?_
          rintro e w4 ⟨rfl, X4, hb, hk⟩
          have R4 := R3.keep hk rfl
          have B4 := B3.trans hb
          obtain ⟨⟨c0, c1, c2, c3⟩, _⟩ := R4.cells
          clear hb hk X3 R3 B3
          go_wp2_with fail
          refine (H3.out _ _ _ (HT.out.below B4) X4).mono ?_
          rintro e u4 ⟨rfl, hb⟩
          have b3 := (Below.refl u4.heap.size u4).alloc (Nat.le_refl _) (.cells #[.int .i64 r.kind, .int .i64 r.index, .int .i64 r.term, .string r.data] 23)
          have R5 := (R4.below hb).below b3
          have N5 := RecB.new u4 r
          have B5 := (B4.trans (hb.mono B4.size)).trans (b3.mono (B4.trans (hb.mono B4.size)).size)
          have X5 := (X4.below hb).below b3
          obtain ⟨⟨n0, n1, n2, n3⟩, _⟩ := N5.cells
          obtain ⟨⟨c0, c1, c2, c3⟩, _⟩ := R5.cells
          clear hb b3 X4 R4 B4
          go_wp2_with fail
          refine (H4.out _ _ _ B5.size X5).mono ?_
          rintro e w6 ⟨rfl, X6, hb, hk⟩
          have R6 := R5.keep hk rfl
          have B6 := B5.trans hb
          obtain ⟨⟨c0, c1, c2, c3⟩, _⟩ := R6.cells
          clear hb hk X5 R5 B5
          go_wp2_with fail
          refine (H5.out _ _ _ B6.size X6).mono ?_
          rintro e w7 ⟨rfl, X7, hb, hk⟩
          have R7 := R6.keep hk rfl
          have B7 := B6.trans hb
          obtain ⟨⟨c0, c1, c2, c3⟩, _⟩ := R7.cells
          clear hb hk X6 R6 B6
          go_wp2_with fail
          refine (H6.out _ _ _ (HT.out.below B7) X7).mono ?_
          rintro e u7 ⟨rfl, hb⟩
          have b3 := (Below.refl u7.heap.size u7).alloc (Nat.le_refl _) (.cells #[.int .i64 0, .int .i64 0, .int .i64 0, .string ⟨#[]⟩] 23)
          have R8 := (R7.below hb).below b3
          have N8 := RecB.new u7 ⟨0, 0, 0, ⟨#[]⟩⟩
          have B8 := (B7.trans (hb.mono B7.size)).trans (b3.mono (B7.trans (hb.mono B7.size)).size)
          have X8 := (X7.below hb).below b3
          obtain ⟨⟨n0, n1, n2, n3⟩, _⟩ := N8.cells
          obtain ⟨⟨c0, c1, c2, c3⟩, _⟩ := R8.cells
          clear hb b3 X7 R7 B7
          go_wp2_with fail
          refine (H7.out _ _ _ B8.size (HT.out.below B8) X8).mono ?_
          rintro e w9 ⟨rfl, X9, hb, hk⟩
          have R9 := R8.keep hk rfl
          have B9 := B8.trans hb
          obtain ⟨⟨c0, c1, c2, c3⟩, _⟩ := R9.cells
          clear hb hk X8 R8 B8
          go_wp2_with fail
          refine (H8.out _ _ _ (HT.out.below B9) X9).mono ?_
          rintro e u9 ⟨rfl, hb⟩
          have b3 := (Below.refl u9.heap.size u9).alloc (Nat.le_refl _) (.cells #[.int .i64 r.kind, .int .i64 r.index, .int .i64 r.term, .string r.data] 23)
          have R10 := (R9.below hb).below b3
          have N10 := RecB.new u9 r
          have B10 := (B9.trans (hb.mono B9.size)).trans (b3.mono (B9.trans (hb.mono B9.size)).size)
          have X10 := (X9.below hb).alloc (.cells #[.int .i64 r.kind, .int .i64 r.index, .int .i64 r.term, .string r.data] 23)
          have Q10 := N10
          obtain ⟨⟨n0, n1, n2, n3⟩, _⟩ := N10.cells
          obtain ⟨⟨c0, c1, c2, c3⟩, _⟩ := R10.cells
          clear hb b3 X9 R9 B9
          go_wp2_with fail
          refine (H9.out _ _ _ (HT.out.below B10) X10).mono ?_
          rintro e u10 ⟨rfl, hb⟩
          have b3 := (Below.refl u10.heap.size u10).alloc (Nat.le_refl _) (.cells #[.int .i64 0, .int .i64 0, .int .i64 0, .string ⟨#[]⟩] 23)
          have R11 := (R10.below hb).below b3
          have N11 := RecB.new u10 ⟨0, 0, 0, ⟨#[]⟩⟩
          have B11 := (B10.trans (hb.mono B10.size)).trans (b3.mono (B10.trans (hb.mono B10.size)).size)
          have X11 := (X10.below hb).below b3
          have Q11 := (Q10.below hb).below b3
          obtain ⟨⟨n0, n1, n2, n3⟩, _⟩ := N11.cells
          obtain ⟨⟨c0, c1, c2, c3⟩, _⟩ := R11.cells
          clear hb b3 X10 R10 B10
          obtain ⟨⟨q0, q1, q2, q3⟩, _⟩ := Q11.cells
          clear Q10
          go_wp2_with fail
          refine (H10.out _ _ _ B11.size X11).mono ?_
          rintro e w12 ⟨rfl, X12, hb, hk⟩
          have R12 := R11.keep hk (.inl rfl)
          have B12 := B11.trans hb
          have Q12 := Q11.keep hk (.inr rfl)
          obtain ⟨⟨q0, q1, q2, q3⟩, _⟩ := Q12.cells
          clear Q11
          obtain ⟨⟨c0, c1, c2, c3⟩, _⟩ := R12.cells
          clear hb hk X11 R11 B11
          go_wp2_with fail
          refine (H11.out _ _ _ B12.size X12).mono ?_
          rintro e w13 ⟨rfl, X13, hb, hk⟩
          have R13 := R12.keep hk (.inl rfl)
          have B13 := B12.trans hb
          have Q13 := Q12.keep hk (.inr rfl)
          obtain ⟨⟨q0, q1, q2, q3⟩, _⟩ := Q13.cells
          clear Q12
          obtain ⟨⟨c0, c1, c2, c3⟩, _⟩ := R13.cells
          clear hb hk X12 R12 B12
          go_wp2_with fail
          refine (H12.out _ _ _ (HT.out.below B13) X13).mono ?_
          rintro e u13 ⟨rfl, hb⟩
          have b3 := (Below.refl u13.heap.size u13).alloc (Nat.le_refl _) (.cells #[.int .i64 0, .int .i64 0, .int .i64 0, .string ⟨#[]⟩] 23)
          have R14 := (R13.below hb).below b3
          have N14 := RecB.new u13 ⟨0, 0, 0, ⟨#[]⟩⟩
          have B14 := (B13.trans (hb.mono B13.size)).trans (b3.mono (B13.trans (hb.mono B13.size)).size)
          have X14 := (X13.below hb).below b3
          have Q14 := (Q13.below hb).below b3
          obtain ⟨⟨n0, n1, n2, n3⟩, _⟩ := N14.cells
          obtain ⟨⟨c0, c1, c2, c3⟩, _⟩ := R14.cells
          clear hb b3 X13 R13 B13
          obtain ⟨⟨q0, q1, q2, q3⟩, _⟩ := Q14.cells
          clear Q13
          go_wp2_with fail
          refine (H13.out _ _ _ B14.size (HT.out.below B14) X14).mono ?_
          rintro e w15 ⟨rfl, X15, hb, hk⟩
          go_wp2_with fail
          go_ret
          exact ⟨by simp, B14.trans hb⟩
    · have H2 := Lib.hid (fun (W : World) (B : Nat) (E : Nat → Prop) (hn' : w.heap.size ≤ W.heap.size) (hT : Tabs W) (h : DevW w.heap.size E W B (DB 8 k 0 blk0)) => show Calls Tryd.prog 20 #[.pointer (some ⟨B, 0, none⟩), .int .i64 (k : Int), recV r] W fun e w' => e = .returned (.int .i64 1) ∧ DevW w.heap.size E w' B (DB 8 k 0 blk0) ∧ Below w.heap.size W w' ∧ Kept E W w' from by
        have := devw_swrite (k : Int) r hn' hT (Nat.zero_le _) h
        rw [swrite_bad (k : Int) (by rw [put_arg hn]; decide), put_arg hn] at this; exact this)
      unfold recV at *
      go_enter Tryd.func5, Tryd.ntmps5
      go_wp2_with fail
      refine HH.out.mono ?_
      rintro e w1 ⟨rfl, hb⟩
      have R1 := n0.below hb
      have B1 := b0.trans (hb.mono b0.size)
      obtain ⟨⟨c0, c1, c2, c3⟩, _⟩ := R1.cells
      clear hb n0 b0 HH
      go_wp2_with fail
      refine (new_any 8 w1).mono ?_
      rintro e w2 ⟨B, rfl, hd2, hb⟩
      rw [show Dv.new 8 = DB 8 k 0 blk0 from DB_new 8 k hk (by decide)] at hd2
      have X2 : DevW w.heap.size (fun j => j = w.heap.size) w2 B (DB 8 k 0 blk0) := devw_new hd2 B1.size (fun j hj => by rw [hj]; exact R1.lt) hb.size
      have R2 := R1.below hb
      have B2 := B1.trans (hb.mono B1.size)
      clear hd2 hb R1 B1
      obtain ⟨⟨c0, c1, c2, c3⟩, _⟩ := R2.cells
      go_wp2_with fail
      refine (H1.out _ _ _ (HT.out.below B2) X2).mono ?_
      rintro e u2 ⟨rfl, hb⟩
      have b3 := (Below.refl u2.heap.size u2).alloc (Nat.le_refl _) (.cells #[.int .i64 0, .int .i64 0, .int .i64 0, .string ⟨#[]⟩] 23)
      have R3 := (R2.below hb).below b3
      have N3 := RecB.new u2 ⟨0, 0, 0, ⟨#[]⟩⟩
      have B3 := (B2.trans (hb.mono B2.size)).trans (b3.mono (B2.trans (hb.mono B2.size)).size)
      have X3 := (X2.below hb).below b3
      obtain ⟨⟨n0, n1, n2, n3⟩, _⟩ := N3.cells
      obtain ⟨⟨c0, c1, c2, c3⟩, _⟩ := R3.cells
      clear hb b3 X2 R2 B2
      go_wp2_with fail
      refine (H2.out _ _ _ B3.size (HT.out.below B3) X3).mono ?_
      rintro e w4 ⟨rfl, X4, hb, hk⟩
      have R4 := R3.keep hk rfl
      have B4 := B3.trans hb
      obtain ⟨⟨c0, c1, c2, c3⟩, _⟩ := R4.cells
      clear hb hk X3 R3 B3
      go_wp2_with fail
      go_ret
      exact ⟨by simp, B4⟩

theorem own : ownKnob Tryd.prog.godebug = none := by kernel_rfl
theorem laidOut : laidOutB Tryd.prog = true := by kernel_rfl
theorem gHi : Tryd.prog.globalNamed "orchard/sum.highTable" = some 0 := by kernel_rfl
theorem gLo : Tryd.prog.globalNamed "orchard/sum.lowTable" = some 1 := by kernel_rfl
theorem gHiType : (Tryd.prog.globals[0]?).map (·.type) = some 108 := by kernel_rfl
theorem gLoType : (Tryd.prog.globals[1]?).map (·.type) = some 108 := by kernel_rfl
theorem cellsTab : Tryd.prog.cellsOf 108 = 16 := by kernel_rfl
theorem cellsSum : Tryd.prog.cellsOf 66 = 1 := by kernel_rfl

theorem table_lo {W : World} (h : laidMetH Tryd.prog Rows.slotBlocksRow.laid W) : Lib.TabIs Tryd.prog W "orchard/sum.lowTable" .u32 LO :=
  Lib.tabIs_of_head (rest := [("orchard/sum.highTable", Rows.laid_orchard_sum_highTable)]) gLo gLoType Tryd.underlying108 Tryd.underlying66 cellsSum cellsTab h
theorem table_hi {W : World} (h : laidMetH Tryd.prog Rows.slotBlocksRow.laid W) : Lib.TabIs Tryd.prog W "orchard/sum.highTable" .u32 HI :=
  Lib.tabIs_of_head (rest := []) gHi gHiType Tryd.underlying108 Tryd.underlying66 cellsSum cellsTab (laidMet.tail (show laidMet Tryd.prog [("orchard/sum.lowTable", Rows.laid_orchard_sum_lowTable), ("orchard/sum.highTable", Rows.laid_orchard_sum_highTable)] W from h))
theorem tabs_of {W : World} (h : laidMetH Tryd.prog Rows.slotBlocksRow.laid W) : Tabs W := by
  have c0 := fun (j : Nat) (hj : j < 16) => (table_hi h).cell gHi j hj
  have c1 := fun (j : Nat) (hj : j < 16) => (table_lo h).cell gLo j hj
  refine ⟨⟨World.block_lt_of_cell? W _ (c0 0 (by decide)), World.block_lt_of_cell? W _ (c1 0 (by decide))⟩, fun j hj => ?_, fun j hj => ?_⟩
  · rw [c0 j hj, hi_cast j]
  · rw [c1 j hj, lo_cast j]

theorem contract (H : Type) (enc : TypeId × Value → H) (W : World) (base : Nat) (args : Array Value) (ds gs : List (DataW H)) (before : List MemPlace)
    (hval : ∀ (j : Nat) t v, Tryd.f5.params[j]? = some t → args[j]? = some v → Value.okWide Tryd.prog W .any base t v)
    (hW : DataW.Whole enc Tryd.prog Tryd.f5.params.toList Rows.slotBlocksSpec.vars false W args.toList ds gs before) (hL : laidMetH Tryd.prog Rows.slotBlocksRow.laid W) :
    Calls Tryd.prog 5 args W fun e W' => ∃ v, e = .returned v ∧ Rows.slotBlocksSpec.post enc Tryd.prog Tryd.f5 false true false false W args v W' := by
  have hT := tabs_of hL
  have hW' := hW
  obtain ⟨p, q, hA0, hV, rfl, hfz, hnd⟩ := hW
  have hA : DataW.TrodAll enc Tryd.prog W 0 (fun _ => true) true Tryd.f5.params.toList args.toList ds p := hA0
  rw [Tryd.params5] at hA hval
  obtain ⟨v0, vs0, d0, ds0, p0, q0, hargs, rfl, rfl, h0, r0⟩ := trodAll_cons hA
  obtain ⟨v1, vs1, d1, ds1, p1, q1, rfl, rfl, rfl, h1, r1⟩ := trodAll_cons r0
  obtain ⟨v2, vs2, d2, ds2, p2, q2, rfl, rfl, rfl, h2, r2⟩ := trodAll_cons r1
  obtain ⟨v3, vs3, d3, ds3, p3, q3, rfl, rfl, rfl, h3, r3⟩ := trodAll_cons r2
  obtain ⟨v4, vs4, d4, ds4, p4, q4, rfl, rfl, rfl, h4, r4⟩ := trodAll_cons r3
  obtain ⟨rfl, rfl, rfl⟩ := trodAll_nil r4
  obtain rfl : args = #[v0, v1, v2, v3, v4] := by cases args; simp_all
  obtain ⟨rfl, rfl⟩ := trodVars_none hV
  have k0 := h0
  have lt0 : ∀ x ∈ p0, x.block < W.heap.size := by obtain ⟨m, hm⟩ := k0; exact DataW.trod_lt m _ _ _ hm
  obtain ⟨z0, w0⟩ := rec_of (hval 0 23 v0 rfl rfl) h0
  obtain ⟨a1, rfl, rfl, rfl, w1⟩ := open_int Tryd.underlying3 (hval 1 3 v1 rfl rfl) h1
  obtain ⟨a2, rfl, rfl, rfl, w2⟩ := open_int Tryd.underlying3 (hval 2 3 v2 rfl rfl) h2
  obtain ⟨a3, rfl, rfl, rfl, w3⟩ := open_int Tryd.underlying5 (hval 3 5 v3 rfl rfl) h3
  obtain ⟨a4, rfl, rfl, rfl⟩ := open_bool Tryd.underlying4 (hval 4 4 v4 rfl rfl) h4
  clear hA0
  refine (walk v0 z0 a1 a2 a3 a4 W w0 w1 w2 w3 hT).mono fun e W' ⟨he, bel⟩ => ?_
  subst he
  exact ⟨_, rfl, _, _, _, [], _, [], hW', trodAll_mk1 (shut_bool Tryd.underlying4 _), (trodAll_cons_mk (Below.trod laidOut (by kernel_rfl) (of_decide_eq_true (by kernel_rfl)) k0 bel lt0) (trodAll_cons_mk (shut_int Tryd.underlying3 w1) (trodAll_cons_mk (shut_int Tryd.underlying3 w2) (trodAll_cons_mk (shut_int Tryd.underlying5 w3) (trodAll_cons_mk (shut_bool Tryd.underlying4 a4) trodAll_mk0))))), rfl, bel.frame _, fun h => by cases h⟩

def setTab (l : List Int) : Obj → Obj
  | .cells _ t frozen => .cells (l.map (Value.int .u32)).toArray t frozen
  | o => o
noncomputable def laidWorld (os : Os) : World :=
  { World.holding Tryd.prog os ⟨#[], #[], []⟩ with heap := ((World.holding Tryd.prog os ⟨#[], #[], []⟩).heap.modify 1 (setTab LO)).modify 0 (setTab HI) }
theorem laid_met (os : Os) : laidMet Tryd.prog Rows.slotBlocksRow.laid ((laidWorld os).forCall (fun _ _ => 0) ⟨#[], #[.agg #[.int .i64 0, .int .i64 0, .int .i64 0, .string ByteArray.empty], .int .i64 0, .int .i64 0, .int .u8 0, .bool false], []⟩).memory :=
  laidMet_of_run' 8 (by kernel_rfl) (by kernel_rfl)
theorem reads (os : Os) {H : Type} (enc : TypeId × Value → H) : ∃ places, DataW.whole enc Tryd.prog ((laidWorld os).forCall (fun _ _ => 0) ⟨#[], #[.agg #[.int .i64 0, .int .i64 0, .int .i64 0, .string ByteArray.empty], .int .i64 0, .int .i64 0, .int .u8 0, .bool false], []⟩).memory Tryd.f5.params.toList Rows.slotBlocksSpec.vars false #[Value.agg #[.int .i64 0, .int .i64 0, .int .i64 0, .string ByteArray.empty], Value.int .i64 0, Value.int .i64 0, Value.int .u8 0, Value.bool false].toList 8 = some ([.agg [.lit (.int .i64 0), .lit (.int .i64 0), .lit (.int .i64 0), .lit (.string [])], .lit (.int .i64 0), .lit (.int .i64 0), .lit (.int .u8 0), .lit (.bool false)], [], places) :=
  ⟨[], by kernel_rfl⟩

set_option maxRecDepth 100000 in
theorem lifted (os : Os) (started : os.Started) (H : Type) (enc : TypeId × Value → H) (F : Stop.Interp) :
    ReturnsInHanded {} Tryd.checked os 5 .any ((OpenSpec.ofChange Rows.slotBlocksSpec).preRow enc Tryd.prog Tryd.f5 Rows.slotBlocksRow.domain false Rows.slotBlocksRow.laid) (((OpenSpec.ofChange Rows.slotBlocksSpec).at F).post enc Tryd.prog Tryd.f5 false true false false) := by
  obtain ⟨places, hx⟩ := reads os enc
  refine returnsInHanded_of_row (C := Tryd.checked) (s := OpenSpec.ofChange Rows.slotBlocksSpec) own started (by kernel_rfl) Tryd.func5
    (witness_row_at (enc := enc) (C := Tryd.checked) false (laidWorld os) #[.agg #[.int .i64 0, .int .i64 0, .int .i64 0, .string ByteArray.empty], .int .i64 0, .int .i64 0, .int .u8 0, .bool false] rfl (by kernel_rfl) (by kernel_rfl) (by kernel_rfl)
      (OpenSpec.preRow_of_cond 8 hx (by kernel_rfl) (fun k hk => by cases hk) (by kernel_rfl) (laid_met os))) ?_
  intro W base args ds gs before hval hW _ _ _ hL _ _
  exact contract H enc W base args ds gs before hval hW hL

theorem said : Rows.SlotBlocksSaid :=
  OpenClaim.holds_of_cond 5 Tryd.f5 rfl rfl rfl rfl rfl rfl rfl ⟨rfl, rfl, rfl, rfl, rfl⟩ rfl rfl rfl rfl rfl (by kernel_rfl) Tryd.func5 (by kernel_rfl)
    (of_decide_eq_true (by kernel_rfl)) (by unfold Func.isWrapper; first | (rw [if_pos (by decide +kernel)]; kernel_rfl) | (rw [if_neg (by decide +kernel)]; exact ⟨rfl, rfl⟩))
    (fun os started H enc _ F => by rw [OpenClaim.pre_eq_preRow]; exact lifted os started H enc F)

theorem plain (f : FuncId) (fn : Func) (hf : Tryd.pinned.checked.prog.funcNamed "orchard/orchardlaw04.SlotBlocks" = some f) (hfn : Tryd.pinned.checked.prog.funcs[f]? = some fn) :
    false = Tryd.pinned.checked.prog.looks [] ∧ ∀ (j : Nat) t, fn.params[j]? = some t → Tryd.pinned.checked.prog.wantsStandIn t = false := by
  obtain rfl : f = 5 := Option.some.inj ((show Tryd.prog.funcNamed "orchard/orchardlaw04.SlotBlocks" = some 5 by kernel_rfl).symm.trans hf) |>.symm
  obtain rfl : fn = Tryd.f5 := (Option.some.inj (Tryd.func5.symm.trans hfn)).symm
  refine ⟨by kernel_rfl, fun j t ht => ?_⟩
  rw [Tryd.params5] at ht
  have hm := Array.mem_of_getElem? ht
  simp at hm
  rcases hm with rfl | rfl | rfl | rfl
  · exact (show Tryd.prog.wantsStandIn 23 = false by kernel_rfl)
  · exact (show Tryd.prog.wantsStandIn 3 = false by kernel_rfl)
  · exact (show Tryd.prog.wantsStandIn 5 = false by kernel_rfl)
  · exact (show Tryd.prog.wantsStandIn 4 = false by kernel_rfl)

theorem card : Rows.SlotBlocksCardSaid :=
  Claim7.holds_tied_plain_at .later [] _ _ _ _ said (fun _ h => by cases h) (by kernel_rfl) (fun _ h => by cases h) slotBlocks_row_tie rfl ⟨rfl, rfl⟩ (by kernel_rfl) rfl plain (by kernel_rfl)
end Go.Proofs.YtlihphmhgnfgpaaDoor.slotBlocks
