/- slot.Read and slot.Write, over any device; no conditions beyond those in each statement. -/
import Derived.Test.YtiknfifiglooeaaDoorSlotMath
import Derived.Test.YtiknfifiglooeaaDoorDevArgs
namespace Go.Proofs.YtiknfifiglooeaaDoor
open Go.RowKit
set_option linter.unusedVariables false
set_option maxRecDepth 100000

/-- What slot.Read answers: the record, the state, the error. -/
def Dv.sread (D : Dv) (i : Int) : Rc × Int × Int :=
  if (D.read i).2 = 6 then (rc0, 2, 0) else if (D.read i).2 = 0 then ((getF (D.read i).1).1, (getF (D.read i).1).2, 0) else (rc0, 0, (D.read i).2)
def sreadV (x : Rc × Int × Int) : Value := .tuple #[recV x.1, .int .i64 x.2.1, .int .i64 x.2.2]
/-- What slot.Write answers, and the device behind it. -/
noncomputable def Dv.swrite (D : Dv) (i : Int) (r : Rc) : Int × Dv := if r.put.2 = 0 then D.write i r.put.1 else (r.put.2, D)

theorem read_size {D : Dv} (hf : D.Fits) (i : Int) : (D.read i).1.size ≤ 512 := by
  unfold Dv.read
  split
  · exact Nat.zero_le _
  · split
    · exact Nat.zero_le _
    · rename_i b hb
      split
      · exact Nat.zero_le _
      · refine contents_size hf ?_
        split at hb
        · exact List.mem_of_getElem? hb
        · cases hb
theorem sret (A : Act) (W : World) (b : Nat) (n m : Int) (r : Rc) (Q : Ending → World → Prop) (h2 : A.tmps.getD 4 undef = .pointer (some ⟨b, 0, none⟩)) (h3 : A.tmps.getD 5 undef = .int .i64 n) (h4 : A.tmps.getD 6 undef = .int .i64 m) (hd : A.defers = []) (hr : RecB W b r)
    (hq : Q (.returned (sreadV (r, n, m))) W) : bodyPost Tryd.prog Tryd.f26 Q Exit.ret A W := by
  obtain ⟨⟨c0, c1, c2, c3⟩, _⟩ := hr.cells
  have e2 : A.tmps[4]?.getD undef = .pointer (some ⟨b, 0, none⟩) := by simpa using h2
  have e3 : A.tmps[5]?.getD undef = .int .i64 n := by simpa using h3
  have e4 : A.tmps[6]?.getD undef = .int .i64 m := by simpa using h4
  exact bodyPost_ret (v := sreadV (r, n, m)) (by simp [results, Tryd.results26, go_sem, sreadV, recV, e2, e3, e4, c0, c1, c2, c3]) hd hq

section
variable {S : Nat → Prop} {w : World} {B : Nat} {D : Dv}
set_option maxHeartbeats 4000000 in
theorem sread_any (i : Int) (h : DevAt S w B D) (ht : Tabs w) (hw : D.writes ≤ 1073741824) :
    Calls Tryd.prog 26 #[.pointer (some ⟨B, 0, none⟩), .int .i64 i] w fun e w' => e = .returned (sreadV (D.sread i)) ∧ Below w.heap.size w w' := by
  have hsz := read_size h.fits i
  have b0 := (Below.refl _ w).alloc (Nat.le_refl _) (.cells #[.int .i64 rc0.kind, .int .i64 rc0.index, .int .i64 rc0.term, .string rc0.data] 58)
  have HR := Lib.hid (read_any i (h.below b0) (by omega))
  have HG := Lib.hid (fun (W : World) (hW : Tabs W) => get_any (D.read i).1 W hW (by omega))
  have HT := Lib.hid (ht.below b0)
  have hn := RecB.new w rc0
  obtain ⟨V, hV⟩ : ∃ V, V = D.sread i := ⟨_, rfl⟩
  rw [← hV]
  unfold Dv.sread at hV
  unfold two at HR
  generalize (D.read i).1 = s at *
  generalize (D.read i).2 = m at *
  generalize getF s = g at *
  obtain ⟨r, st⟩ := g
  unfold getV at HG
  simp only at *
  clear h ht
  by_cases h6 : m = 6
  · subst h6
    rw [if_pos rfl] at hV
    have HV := Lib.hid hV
    clear hV
    go_enter Tryd.func26, Tryd.ntmps26
    go_wp2_with fail
    refine HR.out.mono ?_
    rintro e w1 ⟨rfl, hb1⟩
    have R1 := hn.below hb1
    obtain ⟨⟨c0, c1, c2, c3⟩, f0, f1, f2, f3⟩ := R1.cells
    have B1 := below_rec (b0.trans (hb1.mono b0.size)) (Nat.le_refl _) rc0
    go_wp2_with fail
    exact sret _ (setRec w1 w.heap.size rc0) _ 2 0 rc0 _ rfl rfl rfl rfl (R1.set rc0) ⟨by rw [HV.out], B1⟩
  · rw [if_neg h6] at hV
    have e6 : (m == 6) = false := by simpa using h6
    by_cases h0 : m = 0
    · subst h0
      rw [if_pos rfl] at hV
      have HV := Lib.hid hV
      clear hV h6 e6
      go_enter Tryd.func26, Tryd.ntmps26
      go_wp2_with fail
      refine HR.out.mono ?_
      rintro e w1 ⟨rfl, hb1⟩
      have R1 := hn.below hb1
      have B1 := b0.trans (hb1.mono b0.size)
      have HG1 := Lib.hid (HG.out w1 (HT.out.below hb1))
      clear HR HG hb1 hn
      go_wp2_with fail
      refine HG1.out.mono ?_
      rintro e w2 ⟨rfl, hb2⟩
      have R2 := R1.below hb2
      have B2 := B1.trans (hb2.mono B1.size)
      have b3 := (Below.refl w2.heap.size w2).alloc (Nat.le_refl _) (.cells #[.int .i64 r.kind, .int .i64 r.index, .int .i64 r.term, .string r.data] 58)
      have R3 := R2.below b3
      have N3 := RecB.new w2 r
      have B3 := below_rec (B2.trans (b3.mono B2.size)) (Nat.le_refl _) r
      obtain ⟨⟨c0, c1, c2, c3⟩, f0, f1, f2, f3⟩ := R3.cells
      obtain ⟨⟨n0, n1, n2, n3⟩, _⟩ := N3.cells
      clear b3 R1 hb2 R2
      unfold recV
      go_wp2_with fail
      exact sret _ (setRec _ w.heap.size r) _ st 0 r _ rfl rfl rfl rfl (R3.set r) ⟨by rw [HV.out], B3⟩
    · rw [if_neg h0] at hV
      have e0 : (m == 0) = false := by simpa using h0
      have HV := Lib.hid hV
      clear hV h6 h0
      go_enter Tryd.func26, Tryd.ntmps26
      go_wp2_with fail
      refine HR.out.mono ?_
      rintro e w1 ⟨rfl, hb1⟩
      have R1 := hn.below hb1
      obtain ⟨⟨c0, c1, c2, c3⟩, f0, f1, f2, f3⟩ := R1.cells
      have B1 := below_rec (b0.trans (hb1.mono b0.size)) (Nat.le_refl _) rc0
      go_wp2_with fail
      exact sret _ (setRec w1 w.heap.size rc0) _ 0 m rc0 _ rfl rfl rfl rfl (R1.set rc0) ⟨by rw [HV.out], B1⟩

set_option maxHeartbeats 4000000 in
theorem swrite_any (i : Int) (r : Rc) (h : DevAt S w B D) (ht : Tabs w) (hw : D.writes ≤ 1073741824) :
    Calls Tryd.prog 77 #[.pointer (some ⟨B, 0, none⟩), .int .i64 i, recV r] w fun e w' => e = .returned (.int .i64 (D.swrite i r).1) ∧ DevTo S w B (D.swrite i r).2 w' := by
  have hn := RecB.new w r
  have b0 := (Below.refl _ w).alloc (Nat.le_refl _) (.cells #[.int .i64 r.kind, .int .i64 r.index, .int .i64 r.term, .string r.data] 58)
  have HP := Lib.hid (put_any r _ (ht.below b0))
  obtain ⟨⟨c0, c1, c2, c3⟩, _⟩ := hn.cells
  have HW := Lib.hid (fun (W : World) (hW : DevAt S W B D) => write_any i r.put.1 hw hW)
  obtain ⟨V, hV⟩ : ∃ V, V = D.swrite i r := ⟨_, rfl⟩
  rw [← hV]
  unfold Dv.swrite at hV
  unfold recV at HP ⊢
  generalize r.put.1 = s at *
  generalize r.put.2 = m at *
  have HA := Lib.hid (fun (W : World) (hb : Below w.heap.size w W) => show DevAt S W B D ∧ Mod S w W from ⟨h.below hb, Mod.of_below hb S⟩)
  clear h ht hn
  by_cases h0 : m = 0
  · subst h0
    rw [if_pos rfl] at hV
    rw [← hV] at HW
    clear hV
    go_enter Tryd.func77, Tryd.ntmps77
    go_wp2_with fail
    refine HP.out.mono ?_
    rintro e w1 ⟨rfl, hb1⟩
    obtain ⟨D1, M1⟩ := HA.out w1 (b0.trans (hb1.mono b0.size))
    have HW1 := Lib.hid (HW.out w1 D1)
    clear HP HW
    go_wp2_with fail
    refine HW1.out.mono ?_
    rintro e w2 ⟨rfl, S', q1, q2, q3⟩
    go_wp2_with fail
    go_ret
    exact ⟨rfl, S', q1, fun k hk => (q2 k hk).imp id (fun e => Nat.le_trans M1.size e), M1.trans q3 (fun k hk => .inl hk)⟩
  · rw [if_neg h0] at hV
    have e0 : (m == 0) = false := by simpa using h0
    subst hV
    go_enter Tryd.func77, Tryd.ntmps77
    go_wp2_with fail
    refine HP.out.mono ?_
    rintro e w1 ⟨rfl, hb1⟩
    obtain ⟨D1, M1⟩ := HA.out w1 (b0.trans (hb1.mono b0.size))
    clear HP HW
    go_wp2_with fail
    go_ret
    exact ⟨rfl, S, D1, fun k hk => .inl hk, M1⟩
end
end Go.Proofs.YtiknfifiglooeaaDoor
