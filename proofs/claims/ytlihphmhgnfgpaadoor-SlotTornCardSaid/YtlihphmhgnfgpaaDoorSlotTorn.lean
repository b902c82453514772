/- SlotTorn: what was half written over another record, or over nothing, reads as bad, whatever the fate: kept, lost or torn; no condition on the input (the two tables start as the program's text lays them). -/
import Derived.Test.YtlihphmhgnfgpaaDoorDevW
import Derived.Test.YtlihphmhgnfgpaaDoorCards
import Derived.Test.YtlihphmhgnfgpaaDoorTie
import Derived.ProofKit
import Derived.OpenShut
import Derived.ShutString
import Derived.ChangeOld
import Derived.Deep.DeepHandedRow
import Derived.Lib.LaidTab
import Derived.Stop.LaidErr
namespace Go.Proofs.YtlihphmhgnfgpaaDoor.slotTorn
open Go.ChangeShapes Go.WideShapes Go.ChangeAt Go.RowKit
open Go.ChangeMaps (open_string shut_string)
set_option linter.unusedVariables false
set_option maxRecDepth 100000

theorem crash_one (z : Int) (b0 : Blk) (hp : b0.pending = []) (hl : b0.lost = false) (s : ByteArray) : ((b0.write 0 s).crash [z]) =
    if z = 1 then ⟨s, false, false, []⟩ else if z = 2 then ⟨s.extract 0 (s.size / 2), true, false, []⟩ else ⟨b0.durable, b0.spoiled, false, []⟩ := by
  have e : (b0.write 0 s).pending = [⟨0, s⟩] := by simp [Blk.write, hp]
  have f : fateF [z] 0 = z := rfl
  unfold Blk.crash
  rw [e]
  by_cases h1 : z = 1
  · subst h1
    simp [oneHit, f, Blk.write]
  · by_cases h2 : z = 2
    · subst h2
      simp [oneHit, f, Blk.write]
    · simp [oneHit, f, h1, h2, Blk.write]

theorem torn_read (z : Int) {b : Rc} (b0 : Blk) (ob : b.Ok) (x : Rc × Int × Int) (hx : ((getF b0.durable).1, (getF b0.durable).2, (0 : Int)) = x) :
    (DB 1 0 0 (if z = 1 then ⟨b.bytes, false, false, []⟩ else if z = 2 then ⟨b.bytes.extract 0 (b.bytes.size / 2), true, false, []⟩ else ⟨b0.durable, b0.spoiled, false, []⟩)).sread 0 = if z = 1 then (b, 1, 0) else if z = 2 then (rc0, 2, 0) else x := by
  by_cases h1 : z = 1
  · rw [if_pos h1, if_pos h1]
    refine (DB_read 1 0 0 _ (by decide) rfl).trans ?_
    rw [contents_nil rfl, get_put ob]
  · rw [if_neg h1, if_neg h1]
    by_cases h2 : z = 2
    · rw [if_pos h2, if_pos h2]
      refine (DB_read 1 0 0 _ (by decide) rfl).trans ?_
      rw [contents_nil rfl, get_half ob]
    · rw [if_neg h2, if_neg h2]
      refine (DB_read 1 0 0 _ (by decide) rfl).trans ?_
      rw [contents_nil rfl]
      exact hx

set_option maxHeartbeats 4000000 in
theorem walk (v0 : Value) (a : Rc) (v1 : Value) (b : Rc) (x2 : Int) (a3 : Bool) (w : World) (w0 : v0 = recV a ∧ a.Fits) (w1 : v1 = recV b ∧ b.Fits) (w2 : (Lit.int .i64 x2).wf = true) (hT : Tabs w) :
    Calls Tryd.prog 7 #[v0, v1, .int .i64 x2, .bool a3] w fun e w' => e = .returned (.bool true) ∧ Below w.heap.size w w' := by
  obtain ⟨rfl, fa⟩ := w0
  obtain ⟨rfl, fb⟩ := w1
  have n0' := RecB.new w a
  have b0' := (Below.refl _ w).alloc (Nat.le_refl _) (.cells #[.int .i64 a.kind, .int .i64 a.index, .int .i64 a.term, .string a.data] 23)
  have b0 := b0'.alloc b0'.size (.cells #[.int .i64 b.kind, .int .i64 b.index, .int .i64 b.term, .string b.data] 23)
  have n0 := n0'.below ((Below.refl _ _).alloc (Nat.le_refl _) (.cells #[.int .i64 b.kind, .int .i64 b.index, .int .i64 b.term, .string b.data] 23))
  have m0 := RecB.new (w.alloc (.cells #[.int .i64 a.kind, .int .i64 a.index, .int .i64 a.term, .string a.data] 23)) b
  rw [World.size_alloc] at m0
  have HH := Lib.hid (head4_any _ (hT.below b0))
  have HT := Lib.hid hT
  have ma := fa.data
  have mb := fb.data
  unfold maxLen at ma mb
  clear hT fa fb w2 n0' b0'
  by_cases hda : 488 < a.data.size
  · have ea : decide ((488 : Int) < (a.data.size : Int)) = true := by simp; omega
    unfold recV
    go_enter Tryd.func7, Tryd.ntmps7
    go_wp2_with fail
    refine HH.out.mono ?_
    rintro e w1 ⟨rfl, hb1⟩
    obtain ⟨⟨c0, c1, c2, c3⟩, _⟩ := (n0.below hb1).cells
    obtain ⟨⟨d0, d1, d2, d3⟩, _⟩ := (m0.below hb1).cells
    go_wp2_with fail
    go_ret
    exact ⟨by simp, b0.trans (hb1.mono b0.size)⟩
  · have ea : decide ((488 : Int) < (a.data.size : Int)) = false := by simp; omega
    by_cases hdb : 488 < b.data.size
    · have eb : decide ((488 : Int) < (b.data.size : Int)) = true := by simp; omega
      unfold recV
      go_enter Tryd.func7, Tryd.ntmps7
      go_wp2_with fail
      refine HH.out.mono ?_
      rintro e w1 ⟨rfl, hb1⟩
      obtain ⟨⟨c0, c1, c2, c3⟩, _⟩ := (n0.below hb1).cells
      obtain ⟨⟨d0, d1, d2, d3⟩, _⟩ := (m0.below hb1).cells
      go_wp2_with fail
      go_ret
      exact ⟨by simp, b0.trans (hb1.mono b0.size)⟩
    · have eb : decide ((488 : Int) < (b.data.size : Int)) = false := by simp; omega
      have heqa := eq_recs a
      have heqb := eq_recs b
      cases a3 with
      | true =>
        by_cases oa : a.put.2 = 0
        · have oa := put_zero oa
          have H2 := Lib.hid (fun (W : World) (B : Nat) (E : Nat → Prop) (hn : w.heap.size ≤ W.heap.size) (hT : Tabs W) (h : DevW w.heap.size E W B (DB 1 0 0 blk0)) => show Calls Tryd.prog 20 #[.pointer (some ⟨B, 0, none⟩), .int .i64 0, recV a] W fun e w' => e = .returned (.int .i64 0) ∧ DevW w.heap.size E w' B (DB 1 0 (0 + 1) (blk0.write 0 a.bytes)) ∧ Below w.heap.size W w' ∧ Kept E W w' from by
            have := devw_swrite (((0 : Nat)) : Int) a hn hT (Nat.zero_le _) h; rw [DB_write 1 0 0 blk0 (by decide) oa] at this; exact this)
          have H3 := Lib.hid (fun (W : World) (B : Nat) (E : Nat → Prop) (hn : w.heap.size ≤ W.heap.size) (h : DevW w.heap.size E W B (DB 1 0 (0 + 1) (blk0.write 0 a.bytes))) => show Calls Tryd.prog 21 #[.pointer (some ⟨B, 0, none⟩)] W fun e w' => e = .returned (.int .i64 0) ∧ DevW w.heap.size E w' B (DB 1 0 0 ⟨a.bytes, false, false, []⟩) ∧ Below w.heap.size W w' ∧ Kept E W w' from by
            have := devw_flush hn (show 0 + 1 ≤ 1073741824 by decide) h; rw [DB_flush, write_flush] at this; exact this)
          by_cases ob : b.put.2 = 0
          · have ob := put_zero ob
            have H4 := Lib.hid (fun (W : World) (B : Nat) (E : Nat → Prop) (hn : w.heap.size ≤ W.heap.size) (hT : Tabs W) (h : DevW w.heap.size E W B (DB 1 0 0 ⟨a.bytes, false, false, []⟩)) => show Calls Tryd.prog 20 #[.pointer (some ⟨B, 0, none⟩), .int .i64 0, recV b] W fun e w' => e = .returned (.int .i64 0) ∧ DevW w.heap.size E w' B (DB 1 0 (0 + 1) (Blk.write ⟨a.bytes, false, false, []⟩ 0 b.bytes)) ∧ Below w.heap.size W w' ∧ Kept E W w' from by
              have := devw_swrite (((0 : Nat)) : Int) b hn hT (Nat.zero_le _) h; rw [DB_write 1 0 0 ⟨a.bytes, false, false, []⟩ (by decide) ob] at this; exact this)
            have HCX := Lib.hid (show (Dv.crash (DB 1 0 (0 + 1) (Blk.write ⟨a.bytes, false, false, []⟩ 0 b.bytes)) [x2]).sread 0 = if x2 = 1 then (b, 1, 0) else if x2 = 2 then (rc0, 2, 0) else (a, 1, 0) from by
              rw [DB_crash, crash_one x2 _ rfl rfl]
              exact torn_read x2 ⟨a.bytes, false, false, []⟩ ob (a, 1, 0) (by simp only; rw [get_put oa]))
            have hwr := Lib.hid (show ((DB 1 0 (0 + 1) (Blk.write ⟨a.bytes, false, false, []⟩ 0 b.bytes))).writes ≤ 1073741824 from (show 0 + 1 ≤ 1073741824 by decide))
            unfold recV at H2 H4 ⊢
            go_enter Tryd.func7, Tryd.ntmps7
            go_wp2_with fail
            refine HH.out.mono ?_
            rintro e w1 ⟨rfl, hb⟩
            have R1 := n0.below hb
            have S1 := m0.below hb
            have B1 := b0.trans (hb.mono b0.size)
            obtain ⟨⟨c0, c1, c2, c3⟩, _⟩ := R1.cells
            obtain ⟨⟨d0, d1, d2, d3⟩, _⟩ := S1.cells
            clear hb n0 m0 b0 HH
            go_wp2_with fail
            refine (new_any 1 w1).mono ?_
            rintro e w2 ⟨B, rfl, hd2, hb⟩
            rw [show Dv.new 1 = DB 1 0 0 blk0 from DB_new 1 0 (by decide) (by decide)] at hd2
            have X2 : DevW w.heap.size (fun j => j = w.heap.size ∨ j = w.heap.size + 1) w2 B (DB 1 0 0 blk0) := devw_new hd2 B1.size (fun j hj => by rcases hj with hj | hj; rw [hj]; exact R1.lt; rw [hj]; exact S1.lt) hb.size
            have R2 := R1.below hb
            have S2 := S1.below hb
            have B2 := B1.trans (hb.mono B1.size)
            clear hd2 hb R1 S1 B1
            obtain ⟨⟨c0, c1, c2, c3⟩, _⟩ := R2.cells
            obtain ⟨⟨d0, d1, d2, d3⟩, _⟩ := S2.cells
            go_wp2_with fail
            refine (H2.out _ _ _ B2.size (HT.out.below B2) X2).mono ?_
            rintro e w3 ⟨rfl, X3, hb, hk⟩
            have R3 := R2.keep hk (.inl rfl)
            have S3 := S2.keep hk (.inr rfl)
            have B3 := B2.trans hb
            obtain ⟨⟨c0, c1, c2, c3⟩, _⟩ := R3.cells
            obtain ⟨⟨d0, d1, d2, d3⟩, _⟩ := S3.cells
            clear hb hk X2 R2 S2 B2
            go_wp2_with fail
            refine (H3.out _ _ _ B3.size X3).mono ?_
            rintro e w4 ⟨rfl, X4, hb, hk⟩
            have R4 := R3.keep hk (.inl rfl)
            have S4 := S3.keep hk (.inr rfl)
            have B4 := B3.trans hb
            obtain ⟨⟨c0, c1, c2, c3⟩, _⟩ := R4.cells
            obtain ⟨⟨d0, d1, d2, d3⟩, _⟩ := S4.cells
            clear hb hk X3 R3 S3 B3
            go_wp2_with fail
            refine (H4.out _ _ _ B4.size (HT.out.below B4) X4).mono ?_
            rintro e w5 ⟨rfl, X5, hb, hk⟩
            have R5 := R4.keep hk (.inl rfl)
            have S5 := S4.keep hk (.inr rfl)
            have B5 := B4.trans hb
            obtain ⟨⟨c0, c1, c2, c3⟩, _⟩ := R5.cells
            obtain ⟨⟨d0, d1, d2, d3⟩, _⟩ := S5.cells
            clear hb hk X4 R4 S4 B4
            by_cases h1 : x2 = 1
            · subst h1
              rw [if_pos rfl] at HCX
              have b3 := (Below.refl w5.heap.size w5).alloc (Nat.le_refl _) (.cells #[.int .i64 1] 49)
              have HCR := Lib.hid (devw_crash _ [1] hwr.out (X5.below b3) (Fts.one w5 1 _))
              have B9 := B5.trans (b3.mono B5.size)
              have R9 := R5.below b3
              have S9 := S5.below b3
              clear b3
              go_wp2_with fail
              refine HCR.out.mono ?_
              rintro e w10 ⟨C, rfl, hd10, hb⟩
              have X10 : DevW w.heap.size (fun j => j = w.heap.size ∨ j = w.heap.size + 1) w10 C _ := devw_new hd10 B9.size (fun j hj => by rcases hj with hj | hj; rw [hj]; exact R9.lt; rw [hj]; exact S9.lt) hb.size
              have R10 := R9.below hb
              have S10 := S9.below hb
              have B10 := B9.trans (hb.mono B9.size)
              clear hd10 hb R9 S9 B9 HCR
              have HRD := Lib.hid (devw_sread 0 (HT.out.below B10) (Nat.zero_le _) X10)
              rw [HCX.out] at HRD
              go_wp2_with fail
              unfold sreadV recV at HRD
              simp only at HRD
              refine HRD.out.mono ?_
              rintro e u10 ⟨rfl, hb⟩
              have b3 := (Below.refl u10.heap.size u10).alloc (Nat.le_refl _) (.cells #[.int .i64 b.kind, .int .i64 b.index, .int .i64 b.term, .string b.data] 23)
              have R11 := (R10.below hb).below b3
              have S11 := (S10.below hb).below b3
              have N11 := RecB.new u10 b
              have B11 := (B10.trans (hb.mono B10.size)).trans (b3.mono (B10.trans (hb.mono B10.size)).size)
              obtain ⟨⟨n0, n1, n2, n3⟩, _⟩ := N11.cells
              obtain ⟨⟨c0, c1, c2, c3⟩, _⟩ := R11.cells
              obtain ⟨⟨d0, d1, d2, d3⟩, _⟩ := S11.cells
              clear hb b3 R10 S10 X10 B10 HRD
              go_wp2_with fail
              go_ret
              exact ⟨by simp, B11⟩
            · rw [if_neg h1] at HCX
              have e6 : (x2 == 1) = false := by simpa using h1
              by_cases h2 : x2 = 2
              · subst h2
                rw [if_pos rfl] at HCX
                have b3 := (Below.refl w5.heap.size w5).alloc (Nat.le_refl _) (.cells #[.int .i64 2] 49)
                have HCR := Lib.hid (devw_crash _ [2] hwr.out (X5.below b3) (Fts.one w5 2 _))
                have B9 := B5.trans (b3.mono B5.size)
                have R9 := R5.below b3
                have S9 := S5.below b3
                clear b3
                go_wp2_with fail
                refine HCR.out.mono ?_
                rintro e w10 ⟨C, rfl, hd10, hb⟩
                have X10 : DevW w.heap.size (fun j => j = w.heap.size ∨ j = w.heap.size + 1) w10 C _ := devw_new hd10 B9.size (fun j hj => by rcases hj with hj | hj; rw [hj]; exact R9.lt; rw [hj]; exact S9.lt) hb.size
                have R10 := R9.below hb
                have S10 := S9.below hb
                have B10 := B9.trans (hb.mono B9.size)
                clear hd10 hb R9 S9 B9 HCR
                have HRD := Lib.hid (devw_sread 0 (HT.out.below B10) (Nat.zero_le _) X10)
                rw [HCX.out] at HRD
                go_wp2_with fail
                unfold sreadV recV rc0 at HRD
                simp only at HRD
                refine HRD.out.mono ?_
                rintro e u10 ⟨rfl, hb⟩
                have b3 := (Below.refl u10.heap.size u10).alloc (Nat.le_refl _) (.cells #[.int .i64 0, .int .i64 0, .int .i64 0, .string ⟨#[]⟩] 23)
                have R11 := (R10.below hb).below b3
                have S11 := (S10.below hb).below b3
                have N11 := RecB.new u10 ⟨0, 0, 0, ⟨#[]⟩⟩
                have B11 := (B10.trans (hb.mono B10.size)).trans (b3.mono (B10.trans (hb.mono B10.size)).size)
                obtain ⟨⟨n0, n1, n2, n3⟩, _⟩ := N11.cells
                obtain ⟨⟨c0, c1, c2, c3⟩, _⟩ := R11.cells
                obtain ⟨⟨d0, d1, d2, d3⟩, _⟩ := S11.cells
                clear hb b3 R10 S10 X10 B10 HRD
                go_wp2_with fail
                go_ret
                exact ⟨by simp, B11⟩
              · rw [if_neg h2] at HCX
                have e7 : (x2 == 2) = false := by simpa using h2
                have b3 := (Below.refl w5.heap.size w5).alloc (Nat.le_refl _) (.cells #[.int .i64 x2] 49)
                have HCR := Lib.hid (devw_crash _ [x2] hwr.out (X5.below b3) (Fts.one w5 x2 _))
                have B9 := B5.trans (b3.mono B5.size)
                have R9 := R5.below b3
                have S9 := S5.below b3
                clear b3
                go_wp2_with fail
                refine HCR.out.mono ?_
                rintro e w10 ⟨C, rfl, hd10, hb⟩
                have X10 : DevW w.heap.size (fun j => j = w.heap.size ∨ j = w.heap.size + 1) w10 C _ := devw_new hd10 B9.size (fun j hj => by rcases hj with hj | hj; rw [hj]; exact R9.lt; rw [hj]; exact S9.lt) hb.size
                have R10 := R9.below hb
                have S10 := S9.below hb
                have B10 := B9.trans (hb.mono B9.size)
                clear hd10 hb R9 S9 B9 HCR
                have HRD := Lib.hid (devw_sread 0 (HT.out.below B10) (Nat.zero_le _) X10)
                rw [HCX.out] at HRD
                go_wp2_with fail
                unfold sreadV recV at HRD
                simp only at HRD
                refine HRD.out.mono ?_
                rintro e u10 ⟨rfl, hb⟩
                have b3 := (Below.refl u10.heap.size u10).alloc (Nat.le_refl _) (.cells #[.int .i64 a.kind, .int .i64 a.index, .int .i64 a.term, .string a.data] 23)
                have R11 := (R10.below hb).below b3
                have S11 := (S10.below hb).below b3
                have N11 := RecB.new u10 a
                have B11 := (B10.trans (hb.mono B10.size)).trans (b3.mono (B10.trans (hb.mono B10.size)).size)
                obtain ⟨⟨n0, n1, n2, n3⟩, _⟩ := N11.cells
                obtain ⟨⟨c0, c1, c2, c3⟩, _⟩ := R11.cells
                obtain ⟨⟨d0, d1, d2, d3⟩, _⟩ := S11.cells
                clear hb b3 R10 S10 X10 B10 HRD
                go_wp2_with fail
                go_ret
                exact ⟨by simp, B11⟩
          · have obbad := ob
            have en : (b.put.2 == 0) = false := by simpa using ob
            have H4 := Lib.hid (fun (W : World) (B : Nat) (E : Nat → Prop) (hn : w.heap.size ≤ W.heap.size) (hT : Tabs W) (h : DevW w.heap.size E W B (DB 1 0 0 ⟨a.bytes, false, false, []⟩)) => show Calls Tryd.prog 20 #[.pointer (some ⟨B, 0, none⟩), .int .i64 0, recV b] W fun e w' => e = .returned (.int .i64 b.put.2) ∧ DevW w.heap.size E w' B (DB 1 0 0 ⟨a.bytes, false, false, []⟩) ∧ Below w.heap.size W w' ∧ Kept E W w' from by
              have := devw_swrite 0 b hn hT (Nat.zero_le _) h; rw [swrite_bad 0 obbad] at this; exact this)
            generalize b.put.2 = m at *
            unfold recV at H2 H4 ⊢
            go_enter Tryd.func7, Tryd.ntmps7
            go_wp2_with fail
            refine HH.out.mono ?_
            rintro e w1 ⟨rfl, hb⟩
            have R1 := n0.below hb
            have S1 := m0.below hb
            have B1 := b0.trans (hb.mono b0.size)
            obtain ⟨⟨c0, c1, c2, c3⟩, _⟩ := R1.cells
            obtain ⟨⟨d0, d1, d2, d3⟩, _⟩ := S1.cells
            clear hb n0 m0 b0 HH
            go_wp2_with fail
            refine (new_any 1 w1).mono ?_
            rintro e w2 ⟨B, rfl, hd2, hb⟩
            rw [show Dv.new 1 = DB 1 0 0 blk0 from DB_new 1 0 (by decide) (by decide)] at hd2
            have X2 : DevW w.heap.size (fun j => j = w.heap.size ∨ j = w.heap.size + 1) w2 B (DB 1 0 0 blk0) := devw_new hd2 B1.size (fun j hj => by rcases hj with hj | hj; rw [hj]; exact R1.lt; rw [hj]; exact S1.lt) hb.size
            have R2 := R1.below hb
            have S2 := S1.below hb
            have B2 := B1.trans (hb.mono B1.size)
            clear hd2 hb R1 S1 B1
            obtain ⟨⟨c0, c1, c2, c3⟩, _⟩ := R2.cells
            obtain ⟨⟨d0, d1, d2, d3⟩, _⟩ := S2.cells
            go_wp2_with fail
            refine (H2.out _ _ _ B2.size (HT.out.below B2) X2).mono ?_
            rintro e w3 ⟨rfl, X3, hb, hk⟩
            have R3 := R2.keep hk (.inl rfl)
            have S3 := S2.keep hk (.inr rfl)
            have B3 := B2.trans hb
            obtain ⟨⟨c0, c1, c2, c3⟩, _⟩ := R3.cells
            obtain ⟨⟨d0, d1, d2, d3⟩, _⟩ := S3.cells
            clear hb hk X2 R2 S2 B2
            go_wp2_with fail
            refine (H3.out _ _ _ B3.size X3).mono ?_
            rintro e w4 ⟨rfl, X4, hb, hk⟩
            have R4 := R3.keep hk (.inl rfl)
            have S4 := S3.keep hk (.inr rfl)
            have B4 := B3.trans hb
            obtain ⟨⟨c0, c1, c2, c3⟩, _⟩ := R4.cells
            obtain ⟨⟨d0, d1, d2, d3⟩, _⟩ := S4.cells
            clear hb hk X3 R3 S3 B3
            go_wp2_with fail
            refine (H4.out _ _ _ B4.size (HT.out.below B4) X4).mono ?_
            rintro e w5 ⟨rfl, X5, hb, hk⟩
            have R5 := R4.keep hk (.inl rfl)
            have S5 := S4.keep hk (.inr rfl)
            have B5 := B4.trans hb
            obtain ⟨⟨c0, c1, c2, c3⟩, _⟩ := R5.cells
            obtain ⟨⟨d0, d1, d2, d3⟩, _⟩ := S5.cells
            clear hb hk X4 R4 S4 B4
            go_wp2_with fail
            go_ret
            exact ⟨by simp, B5⟩
        · have oabad := oa
          have en : (a.put.2 == 0) = false := by simpa using oa
          have H2 := Lib.hid (fun (W : World) (B : Nat) (E : Nat → Prop) (hn : w.heap.size ≤ W.heap.size) (hT : Tabs W) (h : DevW w.heap.size E W B (DB 1 0 0 blk0)) => show Calls Tryd.prog 20 #[.pointer (some ⟨B, 0, none⟩), .int .i64 0, recV a] W fun e w' => e = .returned (.int .i64 a.put.2) ∧ DevW w.heap.size E w' B (DB 1 0 0 blk0) ∧ Below w.heap.size W w' ∧ Kept E W w' from by
            have := devw_swrite 0 a hn hT (Nat.zero_le _) h; rw [swrite_bad 0 oabad] at this; exact this)
          generalize a.put.2 = m at *
          unfold recV at H2 ⊢
          go_enter Tryd.func7, Tryd.ntmps7
          go_wp2_with fail
          refine HH.out.mono ?_
          rintro e w1 ⟨rfl, hb⟩
          have R1 := n0.below hb
          have S1 := m0.below hb
          have B1 := b0.trans (hb.mono b0.size)
          obtain ⟨⟨c0, c1, c2, c3⟩, _⟩ := R1.cells
          obtain ⟨⟨d0, d1, d2, d3⟩, _⟩ := S1.cells
          clear hb n0 m0 b0 HH
          go_wp2_with fail
          refine (new_any 1 w1).mono ?_
          rintro e w2 ⟨B, rfl, hd2, hb⟩
          rw [show Dv.new 1 = DB 1 0 0 blk0 from DB_new 1 0 (by decide) (by decide)] at hd2
          have X2 : DevW w.heap.size (fun j => j = w.heap.size ∨ j = w.heap.size + 1) w2 B (DB 1 0 0 blk0) := devw_new hd2 B1.size (fun j hj => by rcases hj with hj | hj; rw [hj]; exact R1.lt; rw [hj]; exact S1.lt) hb.size
          have R2 := R1.below hb
          have S2 := S1.below hb
          have B2 := B1.trans (hb.mono B1.size)
          clear hd2 hb R1 S1 B1
          obtain ⟨⟨c0, c1, c2, c3⟩, _⟩ := R2.cells
          obtain ⟨⟨d0, d1, d2, d3⟩, _⟩ := S2.cells
          go_wp2_with fail
          refine (H2.out _ _ _ B2.size (HT.out.below B2) X2).mono ?_
          rintro e w3 ⟨rfl, X3, hb, hk⟩
          have R3 := R2.keep hk (.inl rfl)
          have S3 := S2.keep hk (.inr rfl)
          have B3 := B2.trans hb
          obtain ⟨⟨c0, c1, c2, c3⟩, _⟩ := R3.cells
          obtain ⟨⟨d0, d1, d2, d3⟩, _⟩ := S3.cells
          clear hb hk X2 R2 S2 B2
          go_wp2_with fail
          go_ret
          exact ⟨by simp, B3⟩
      | false =>
        by_cases ob : b.put.2 = 0
        · have ob := put_zero ob
          have H4 := Lib.hid (fun (W : World) (B : Nat) (E : Nat → Prop) (hn : w.heap.size ≤ W.heap.size) (hT : Tabs W) (h : DevW w.heap.size E W B (DB 1 0 0 blk0)) => show Calls Tryd.prog 20 #[.pointer (some ⟨B, 0, none⟩), .int .i64 0, recV b] W fun e w' => e = .returned (.int .i64 0) ∧ DevW w.heap.size E w' B (DB 1 0 (0 + 1) (blk0.write 0 b.bytes)) ∧ Below w.heap.size W w' ∧ Kept E W w' from by
            have := devw_swrite (((0 : Nat)) : Int) b hn hT (Nat.zero_le _) h; rw [DB_write 1 0 0 blk0 (by decide) ob] at this; exact this)
          have HCX := Lib.hid (show (Dv.crash (DB 1 0 (0 + 1) (blk0.write 0 b.bytes)) [x2]).sread 0 = if x2 = 1 then (b, 1, 0) else if x2 = 2 then (rc0, 2, 0) else (rc0, 0, 0) from by
            rw [DB_crash, crash_one x2 _ rfl rfl]
            exact torn_read x2 blk0 ob (rc0, 0, 0) rfl)
          have hwr := Lib.hid (show ((DB 1 0 (0 + 1) (blk0.write 0 b.bytes))).writes ≤ 1073741824 from (show 0 + 1 ≤ 1073741824 by decide))
          unfold recV at H4 ⊢
          go_enter Tryd.func7, Tryd.ntmps7
          go_wp2_with fail
          refine HH.out.mono ?_
          rintro e w1 ⟨rfl, hb⟩
          have R1 := n0.below hb
          have S1 := m0.below hb
          have B1 := b0.trans (hb.mono b0.size)
          obtain ⟨⟨c0, c1, c2, c3⟩, _⟩ := R1.cells
          obtain ⟨⟨d0, d1, d2, d3⟩, _⟩ := S1.cells
          clear hb n0 m0 b0 HH
          go_wp2_with fail
          refine (new_any 1 w1).mono ?_
          rintro e w2 ⟨B, rfl, hd2, hb⟩
          rw [show Dv.new 1 = DB 1 0 0 blk0 from DB_new 1 0 (by decide) (by decide)] at hd2
          have X2 : DevW w.heap.size (fun j => j = w.heap.size ∨ j = w.heap.size + 1) w2 B (DB 1 0 0 blk0) := devw_new hd2 B1.size (fun j hj => by rcases hj with hj | hj; rw [hj]; exact R1.lt; rw [hj]; exact S1.lt) hb.size
          have R2 := R1.below hb
          have S2 := S1.below hb
          have B2 := B1.trans (hb.mono B1.size)
          clear hd2 hb R1 S1 B1
          obtain ⟨⟨c0, c1, c2, c3⟩, _⟩ := R2.cells
          obtain ⟨⟨d0, d1, d2, d3⟩, _⟩ := S2.cells
          go_wp2_with fail
          refine (H4.out _ _ _ B2.size (HT.out.below B2) X2).mono ?_
          rintro e w3 ⟨rfl, X3, hb, hk⟩
          have R3 := R2.keep hk (.inl rfl)
          have S3 := S2.keep hk (.inr rfl)
          have B3 := B2.trans hb
          obtain ⟨⟨c0, c1, c2, c3⟩, _⟩ := R3.cells
          obtain ⟨⟨d0, d1, d2, d3⟩, _⟩ := S3.cells
          clear hb hk X2 R2 S2 B2
          by_cases h1 : x2 = 1
          · subst h1
            rw [if_pos rfl] at HCX
            have b3 := (Below.refl w3.heap.size w3).alloc (Nat.le_refl _) (.cells #[.int .i64 1] 49)
            have HCR := Lib.hid (devw_crash _ [1] hwr.out (X3.below b3) (Fts.one w3 1 _))
            have B9 := B3.trans (b3.mono B3.size)
            have R9 := R3.below b3
            have S9 := S3.below b3
            clear b3
            go_wp2_with fail
            refine HCR.out.mono ?_
            rintro e w10 ⟨C, rfl, hd10, hb⟩
            have X10 : DevW w.heap.size (fun j => j = w.heap.size ∨ j = w.heap.size + 1) w10 C _ := devw_new hd10 B9.size (fun j hj => by rcases hj with hj | hj; rw [hj]; exact R9.lt; rw [hj]; exact S9.lt) hb.size
            have R10 := R9.below hb
            have S10 := S9.below hb
            have B10 := B9.trans (hb.mono B9.size)
            clear hd10 hb R9 S9 B9 HCR
            have HRD := Lib.hid (devw_sread 0 (HT.out.below B10) (Nat.zero_le _) X10)
            rw [HCX.out] at HRD
            go_wp2_with fail
            unfold sreadV recV at HRD
            simp only at HRD
            refine HRD.out.mono ?_
            rintro e u10 ⟨rfl, hb⟩
            have b3 := (Below.refl u10.heap.size u10).alloc (Nat.le_refl _) (.cells #[.int .i64 b.kind, .int .i64 b.index, .int .i64 b.term, .string b.data] 23)
            have R11 := (R10.below hb).below b3
            have S11 := (S10.below hb).below b3
            have N11 := RecB.new u10 b
            have B11 := (B10.trans (hb.mono B10.size)).trans (b3.mono (B10.trans (hb.mono B10.size)).size)
            obtain ⟨⟨n0, n1, n2, n3⟩, _⟩ := N11.cells
            obtain ⟨⟨c0, c1, c2, c3⟩, _⟩ := R11.cells
            obtain ⟨⟨d0, d1, d2, d3⟩, _⟩ := S11.cells
            clear hb b3 R10 S10 X10 B10 HRD
            go_wp2_with fail
            go_ret
            exact ⟨by simp, B11⟩
          · rw [if_neg h1] at HCX
            have e6 : (x2 == 1) = false := by simpa using h1
            by_cases h2 : x2 = 2
            · subst h2
              rw [if_pos rfl] at HCX
              have b3 := (Below.refl w3.heap.size w3).alloc (Nat.le_refl _) (.cells #[.int .i64 2] 49)
              have HCR := Lib.hid (devw_crash _ [2] hwr.out (X3.below b3) (Fts.one w3 2 _))
              have B9 := B3.trans (b3.mono B3.size)
              have R9 := R3.below b3
              have S9 := S3.below b3
              clear b3
              go_wp2_with fail
              refine HCR.out.mono ?_
              rintro e w10 ⟨C, rfl, hd10, hb⟩
              have X10 : DevW w.heap.size (fun j => j = w.heap.size ∨ j = w.heap.size + 1) w10 C _ := devw_new hd10 B9.size (fun j hj => by rcases hj with hj | hj; rw [hj]; exact R9.lt; rw [hj]; exact S9.lt) hb.size
              have R10 := R9.below hb
              have S10 := S9.below hb
              have B10 := B9.trans (hb.mono B9.size)
              clear hd10 hb R9 S9 B9 HCR
              have HRD := Lib.hid (devw_sread 0 (HT.out.below B10) (Nat.zero_le _) X10)
              rw [HCX.out] at HRD
              go_wp2_with fail
              unfold sreadV recV rc0 at HRD
              simp only at HRD
              refine HRD.out.mono ?_
              rintro e u10 ⟨rfl, hb⟩
              have b3 := (Below.refl u10.heap.size u10).alloc (Nat.le_refl _) (.cells #[.int .i64 0, .int .i64 0, .int .i64 0, .string ⟨#[]⟩] 23)
              have R11 := (R10.below hb).below b3
              have S11 := (S10.below hb).below b3
              have N11 := RecB.new u10 ⟨0, 0, 0, ⟨#[]⟩⟩
              have B11 := (B10.trans (hb.mono B10.size)).trans (b3.mono (B10.trans (hb.mono B10.size)).size)
              obtain ⟨⟨n0, n1, n2, n3⟩, _⟩ := N11.cells
              obtain ⟨⟨c0, c1, c2, c3⟩, _⟩ := R11.cells
              obtain ⟨⟨d0, d1, d2, d3⟩, _⟩ := S11.cells
              clear hb b3 R10 S10 X10 B10 HRD
              go_wp2_with fail
              go_ret
              exact ⟨by simp, B11⟩
            · rw [if_neg h2] at HCX
              have e7 : (x2 == 2) = false := by simpa using h2
              have b3 := (Below.refl w3.heap.size w3).alloc (Nat.le_refl _) (.cells #[.int .i64 x2] 49)
              have HCR := Lib.hid (devw_crash _ [x2] hwr.out (X3.below b3) (Fts.one w3 x2 _))
              have B9 := B3.trans (b3.mono B3.size)
              have R9 := R3.below b3
              have S9 := S3.below b3
              clear b3
              go_wp2_with fail
              refine HCR.out.mono ?_
              rintro e w10 ⟨C, rfl, hd10, hb⟩
              have X10 : DevW w.heap.size (fun j => j = w.heap.size ∨ j = w.heap.size + 1) w10 C _ := devw_new hd10 B9.size (fun j hj => by rcases hj with hj | hj; rw [hj]; exact R9.lt; rw [hj]; exact S9.lt) hb.size
              have R10 := R9.below hb
              have S10 := S9.below hb
              have B10 := B9.trans (hb.mono B9.size)
              clear hd10 hb R9 S9 B9 HCR
              have HRD := Lib.hid (devw_sread 0 (HT.out.below B10) (Nat.zero_le _) X10)
              rw [HCX.out] at HRD
              go_wp2_with fail
              unfold sreadV recV rc0 at HRD
              simp only at HRD
              refine HRD.out.mono ?_
              rintro e u10 ⟨rfl, hb⟩
              have b3 := (Below.refl u10.heap.size u10).alloc (Nat.le_refl _) (.cells #[.int .i64 0, .int .i64 0, .int .i64 0, .string ⟨#[]⟩] 23)
              have R11 := (R10.below hb).below b3
              have S11 := (S10.below hb).below b3
              have N11 := RecB.new u10 ⟨0, 0, 0, ⟨#[]⟩⟩
              have B11 := (B10.trans (hb.mono B10.size)).trans (b3.mono (B10.trans (hb.mono B10.size)).size)
              obtain ⟨⟨n0, n1, n2, n3⟩, _⟩ := N11.cells
              obtain ⟨⟨c0, c1, c2, c3⟩, _⟩ := R11.cells
              obtain ⟨⟨d0, d1, d2, d3⟩, _⟩ := S11.cells
              clear hb b3 R10 S10 X10 B10 HRD
              go_wp2_with fail
              go_ret
              exact ⟨by simp, B11⟩
        · have obbad := ob
          have en : (b.put.2 == 0) = false := by simpa using ob
          have H4 := Lib.hid (fun (W : World) (B : Nat) (E : Nat → Prop) (hn : w.heap.size ≤ W.heap.size) (hT : Tabs W) (h : DevW w.heap.size E W B (DB 1 0 0 blk0)) => show Calls Tryd.prog 20 #[.pointer (some ⟨B, 0, none⟩), .int .i64 0, recV b] W fun e w' => e = .returned (.int .i64 b.put.2) ∧ DevW w.heap.size E w' B (DB 1 0 0 blk0) ∧ Below w.heap.size W w' ∧ Kept E W w' from by
            have := devw_swrite 0 b hn hT (Nat.zero_le _) h; rw [swrite_bad 0 obbad] at this; exact this)
          generalize b.put.2 = m at *
          unfold recV at H4 ⊢
          go_enter Tryd.func7, Tryd.ntmps7
          go_wp2_with fail
          refine HH.out.mono ?_
          rintro e w1 ⟨rfl, hb⟩
          have R1 := n0.below hb
          have S1 := m0.below hb
          have B1 := b0.trans (hb.mono b0.size)
          obtain ⟨⟨c0, c1, c2, c3⟩, _⟩ := R1.cells
          obtain ⟨⟨d0, d1, d2, d3⟩, _⟩ := S1.cells
          clear hb n0 m0 b0 HH
          go_wp2_with fail
          refine (new_any 1 w1).mono ?_
          rintro e w2 ⟨B, rfl, hd2, hb⟩
          rw [show Dv.new 1 = DB 1 0 0 blk0 from DB_new 1 0 (by decide) (by decide)] at hd2
          have X2 : DevW w.heap.size (fun j => j = w.heap.size ∨ j = w.heap.size + 1) w2 B (DB 1 0 0 blk0) := devw_new hd2 B1.size (fun j hj => by rcases hj with hj | hj; rw [hj]; exact R1.lt; rw [hj]; exact S1.lt) hb.size
          have R2 := R1.below hb
          have S2 := S1.below hb
          have B2 := B1.trans (hb.mono B1.size)
          clear hd2 hb R1 S1 B1
          obtain ⟨⟨c0, c1, c2, c3⟩, _⟩ := R2.cells
          obtain ⟨⟨d0, d1, d2, d3⟩, _⟩ := S2.cells
          go_wp2_with fail
          refine (H4.out _ _ _ B2.size (HT.out.below B2) X2).mono ?_
          rintro e w3 ⟨rfl, X3, hb, hk⟩
          have R3 := R2.keep hk (.inl rfl)
          have S3 := S2.keep hk (.inr rfl)
          have B3 := B2.trans hb
          obtain ⟨⟨c0, c1, c2, c3⟩, _⟩ := R3.cells
          obtain ⟨⟨d0, d1, d2, d3⟩, _⟩ := S3.cells
          clear hb hk X2 R2 S2 B2
          go_wp2_with fail
          go_ret
          exact ⟨by simp, B3⟩

theorem own : ownKnob Tryd.prog.godebug = none := by kernel_rfl
theorem laidOut : laidOutB Tryd.prog = true := by kernel_rfl
theorem gHi : Tryd.prog.globalNamed "orchard/sum.highTable" = some 0 := by kernel_rfl
theorem gLo : Tryd.prog.globalNamed "orchard/sum.lowTable" = some 1 := by kernel_rfl
theorem gHiType : (Tryd.prog.globals[0]?).map (·.type) = some 108 := by kernel_rfl
theorem gLoType : (Tryd.prog.globals[1]?).map (·.type) = some 108 := by kernel_rfl
theorem cellsTab : Tryd.prog.cellsOf 108 = 16 := by kernel_rfl
theorem cellsSum : Tryd.prog.cellsOf 66 = 1 := by kernel_rfl

theorem table_lo {W : World} (h : laidMetH Tryd.prog Rows.slotTornRow.laid W) : Lib.TabIs Tryd.prog W "orchard/sum.lowTable" .u32 LO :=
  Lib.tabIs_of_head (rest := [("orchard/sum.highTable", Rows.laid_orchard_sum_highTable)]) gLo gLoType Tryd.underlying108 Tryd.underlying66 cellsSum cellsTab h
theorem table_hi {W : World} (h : laidMetH Tryd.prog Rows.slotTornRow.laid W) : Lib.TabIs Tryd.prog W "orchard/sum.highTable" .u32 HI :=
  Lib.tabIs_of_head (rest := []) gHi gHiType Tryd.underlying108 Tryd.underlying66 cellsSum cellsTab (laidMet.tail (show laidMet Tryd.prog [("orchard/sum.lowTable", Rows.laid_orchard_sum_lowTable), ("orchard/sum.highTable", Rows.laid_orchard_sum_highTable)] W from h))
theorem tabs_of {W : World} (h : laidMetH Tryd.prog Rows.slotTornRow.laid W) : Tabs W := by
  have c0 := fun (j : Nat) (hj : j < 16) => (table_hi h).cell gHi j hj
  have c1 := fun (j : Nat) (hj : j < 16) => (table_lo h).cell gLo j hj
  refine ⟨⟨World.block_lt_of_cell? W _ (c0 0 (by decide)), World.block_lt_of_cell? W _ (c1 0 (by decide))⟩, fun j hj => ?_, fun j hj => ?_⟩
  · rw [c0 j hj, hi_cast j]
  · rw [c1 j hj, lo_cast j]

theorem contract (H : Type) (enc : TypeId × Value → H) (W : World) (base : Nat) (args : Array Value) (ds gs : List (DataW H)) (before : List MemPlace)
    (hval : ∀ (j : Nat) t v, Tryd.f7.params[j]? = some t → args[j]? = some v → Value.okWide Tryd.prog W .any base t v)
    (hW : DataW.Whole enc Tryd.prog Tryd.f7.params.toList Rows.slotTornSpec.vars false W args.toList ds gs before) (hL : laidMetH Tryd.prog Rows.slotTornRow.laid W) :
    Calls Tryd.prog 7 args W fun e W' => ∃ v, e = .returned v ∧ Rows.slotTornSpec.post enc Tryd.prog Tryd.f7 false true false false W args v W' := by
  have hT := tabs_of hL
  have hW' := hW
  obtain ⟨p, q, hA0, hV, rfl, hfz, hnd⟩ := hW
  have hA : DataW.TrodAll enc Tryd.prog W 0 (fun _ => true) true Tryd.f7.params.toList args.toList ds p := hA0
  rw [Tryd.params7] at hA hval
  obtain ⟨v0, vs0, d0, ds0, p0, q0, hargs, rfl, rfl, h0, r0⟩ := trodAll_cons hA
  obtain ⟨v1, vs1, d1, ds1, p1, q1, rfl, rfl, rfl, h1, r1⟩ := trodAll_cons r0
  obtain ⟨v2, vs2, d2, ds2, p2, q2, rfl, rfl, rfl, h2, r2⟩ := trodAll_cons r1
  obtain ⟨v3, vs3, d3, ds3, p3, q3, rfl, rfl, rfl, h3, r3⟩ := trodAll_cons r2
  obtain ⟨rfl, rfl, rfl⟩ := trodAll_nil r3
  obtain rfl : args = #[v0, v1, v2, v3] := by cases args; simp_all
  obtain ⟨rfl, rfl⟩ := trodVars_none hV
  have k0 := h0
  have lt0 : ∀ x ∈ p0, x.block < W.heap.size := by obtain ⟨m, hm⟩ := k0; exact DataW.trod_lt m _ _ _ hm
  obtain ⟨z0, w0⟩ := rec_of (hval 0 23 v0 rfl rfl) h0
  have k1 := h1
  have lt1 : ∀ x ∈ p1, x.block < W.heap.size := by obtain ⟨m, hm⟩ := k1; exact DataW.trod_lt m _ _ _ hm
  obtain ⟨z1, w1⟩ := rec_of (hval 1 23 v1 rfl rfl) h1
  obtain ⟨a2, rfl, rfl, rfl, w2⟩ := open_int Tryd.underlying49 (hval 2 49 v2 rfl rfl) h2
  obtain ⟨a3, rfl, rfl, rfl⟩ := open_bool Tryd.underlying4 (hval 3 4 v3 rfl rfl) h3
  clear hA0
  refine (walk v0 z0 v1 z1 a2 a3 W w0 w1 w2 hT).mono fun e W' ⟨he, bel⟩ => ?_
  subst he
  exact ⟨_, rfl, _, _, _, [], _, [], hW', trodAll_mk1 (shut_bool Tryd.underlying4 _), (trodAll_cons_mk (Below.trod laidOut (by kernel_rfl) (of_decide_eq_true (by kernel_rfl)) k0 bel lt0) (trodAll_cons_mk (Below.trod laidOut (by kernel_rfl) (of_decide_eq_true (by kernel_rfl)) k1 bel lt1) (trodAll_cons_mk (shut_int Tryd.underlying49 w2) (trodAll_cons_mk (shut_bool Tryd.underlying4 a3) trodAll_mk0)))), rfl, bel.frame _, fun h => by cases h⟩

def setTab (l : List Int) : Obj → Obj
  | .cells _ t frozen => .cells (l.map (Value.int .u32)).toArray t frozen
  | o => o
noncomputable def laidWorld (os : Os) : World :=
  { World.holding Tryd.prog os ⟨#[], #[], []⟩ with heap := ((World.holding Tryd.prog os ⟨#[], #[], []⟩).heap.modify 1 (setTab LO)).modify 0 (setTab HI) }
theorem laid_met (os : Os) : laidMet Tryd.prog Rows.slotTornRow.laid ((laidWorld os).forCall (fun _ _ => 0) ⟨#[], #[.agg #[.int .i64 0, .int .i64 0, .int .i64 0, .string ByteArray.empty], .agg #[.int .i64 0, .int .i64 0, .int .i64 0, .string ByteArray.empty], .int .i64 0, .bool false], []⟩).memory :=
  laidMet_of_run' 8 (by kernel_rfl) (by kernel_rfl)
theorem reads (os : Os) {H : Type} (enc : TypeId × Value → H) : ∃ places, DataW.whole enc Tryd.prog ((laidWorld os).forCall (fun _ _ => 0) ⟨#[], #[.agg #[.int .i64 0, .int .i64 0, .int .i64 0, .string ByteArray.empty], .agg #[.int .i64 0, .int .i64 0, .int .i64 0, .string ByteArray.empty], .int .i64 0, .bool false], []⟩).memory Tryd.f7.params.toList Rows.slotTornSpec.vars false #[Value.agg #[.int .i64 0, .int .i64 0, .int .i64 0, .string ByteArray.empty], Value.agg #[.int .i64 0, .int .i64 0, .int .i64 0, .string ByteArray.empty], Value.int .i64 0, Value.bool false].toList 8 = some ([.agg [.lit (.int .i64 0), .lit (.int .i64 0), .lit (.int .i64 0), .lit (.string [])], .agg [.lit (.int .i64 0), .lit (.int .i64 0), .lit (.int .i64 0), .lit (.string [])], .lit (.int .i64 0), .lit (.bool false)], [], places) :=
  ⟨[], by kernel_rfl⟩

set_option maxRecDepth 100000 in
theorem lifted (os : Os) (started : os.Started) (H : Type) (enc : TypeId × Value → H) (F : Stop.Interp) :
    ReturnsInHanded {} Tryd.checked os 7 .any ((OpenSpec.ofChange Rows.slotTornSpec).preRow enc Tryd.prog Tryd.f7 Rows.slotTornRow.domain false Rows.slotTornRow.laid) (((OpenSpec.ofChange Rows.slotTornSpec).at F).post enc Tryd.prog Tryd.f7 false true false false) := by
  obtain ⟨places, hx⟩ := reads os enc
  refine returnsInHanded_of_row (C := Tryd.checked) (s := OpenSpec.ofChange Rows.slotTornSpec) own started (by kernel_rfl) Tryd.func7
    (witness_row_at (enc := enc) (C := Tryd.checked) false (laidWorld os) #[.agg #[.int .i64 0, .int .i64 0, .int .i64 0, .string ByteArray.empty], .agg #[.int .i64 0, .int .i64 0, .int .i64 0, .string ByteArray.empty], .int .i64 0, .bool false] rfl (by kernel_rfl) (by kernel_rfl) (by kernel_rfl)
      (OpenSpec.preRow_of_cond 8 hx (by kernel_rfl) (fun k hk => by cases hk) (by kernel_rfl) (laid_met os))) ?_
  intro W base args ds gs before hval hW _ _ _ hL _ _
  exact contract H enc W base args ds gs before hval hW hL

theorem said : Rows.SlotTornSaid :=
  OpenClaim.holds_of_cond 7 Tryd.f7 rfl rfl rfl rfl rfl rfl rfl ⟨rfl, rfl, rfl, rfl, rfl⟩ rfl rfl rfl rfl rfl (by kernel_rfl) Tryd.func7 (by kernel_rfl)
    (of_decide_eq_true (by kernel_rfl)) (by unfold Func.isWrapper; first | (rw [if_pos (by decide +kernel)]; kernel_rfl) | (rw [if_neg (by decide +kernel)]; exact ⟨rfl, rfl⟩))
    (fun os started H enc _ F => by rw [OpenClaim.pre_eq_preRow]; exact lifted os started H enc F)

theorem plain (f : FuncId) (fn : Func) (hf : Tryd.pinned.checked.prog.funcNamed "orchard/orchardlaw04.SlotTorn" = some f) (hfn : Tryd.pinned.checked.prog.funcs[f]? = some fn) :
    false = Tryd.pinned.checked.prog.looks [] ∧ ∀ (j : Nat) t, fn.params[j]? = some t → Tryd.pinned.checked.prog.wantsStandIn t = false := by
  obtain rfl : f = 7 := Option.some.inj ((show Tryd.prog.funcNamed "orchard/orchardlaw04.SlotTorn" = some 7 by kernel_rfl).symm.trans hf) |>.symm
  obtain rfl : fn = Tryd.f7 := (Option.some.inj (Tryd.func7.symm.trans hfn)).symm
  refine ⟨by kernel_rfl, fun j t ht => ?_⟩
  rw [Tryd.params7] at ht
  have hm := Array.mem_of_getElem? ht
  simp at hm
  rcases hm with rfl | rfl | rfl
  · exact (show Tryd.prog.wantsStandIn 23 = false by kernel_rfl)
  · exact (show Tryd.prog.wantsStandIn 49 = false by kernel_rfl)
  · exact (show Tryd.prog.wantsStandIn 4 = false by kernel_rfl)

theorem card : Rows.SlotTornCardSaid :=
  Claim7.holds_tied_plain_at .later [] _ _ _ _ said (fun _ h => by cases h) (by kernel_rfl) (fun _ h => by cases h) slotTorn_row_tie rfl ⟨rfl, rfl⟩ (by kernel_rfl) rfl plain (by kernel_rfl)
end Go.Proofs.YtlihphmhgnfgpaaDoor.slotTorn
