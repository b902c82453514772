/- slot.Get: what it answers; no conditions beyond those in each statement. -/
import Derived.Test.YtpjbkeheemhlnaaDoorSlotPut
namespace Go.Proofs.YtpjbkeheemhlnaaDoor
open Go.RowKit
set_option linter.unusedVariables false
set_option maxRecDepth 100000

/-- What Get answers, as a value. -/
def getV (x : Rc × Int) : Value := .tuple #[recV x.1, .int .i64 x.2]

/-- The result's block: four cells. -/
def RecB (w : World) (b : Nat) (r : Rc) : Prop := w.heap[b]? = some (.cells #[.int .i64 r.kind, .int .i64 r.index, .int .i64 r.term, .string r.data] 38 (0, 0))
theorem RecB.cells {w : World} {b : Nat} {r : Rc} (h : RecB w b r) :
    (w.cell? ⟨b, 0, none⟩ = some (.int .i64 r.kind) ∧ w.cell? ⟨b, 1, none⟩ = some (.int .i64 r.index) ∧ w.cell? ⟨b, 2, none⟩ = some (.int .i64 r.term) ∧ w.cell? ⟨b, 3, none⟩ = some (.string r.data)) ∧
    w.frozen? ⟨b, 0, none⟩ = false ∧ w.frozen? ⟨b, 1, none⟩ = false ∧ w.frozen? ⟨b, 2, none⟩ = false ∧ w.frozen? ⟨b, 3, none⟩ = false :=
  ⟨⟨cell_of h rfl, cell_of h rfl, cell_of h rfl, cell_of h rfl⟩, free_of h, free_of h, free_of h, free_of h⟩
theorem RecB.lt {w : World} {b : Nat} {r : Rc} (h : RecB w b r) : b < w.heap.size := lt_of_block h
theorem RecB.below {w w' : World} {b : Nat} {r : Rc} (h : RecB w b r) (k : Below w.heap.size w w') : RecB w' b r := (k.block b h.lt).trans h
theorem RecB.kept {w w' : World} {b : Nat} {r : Rc} {row : Option Nat} (h : RecB w b r) (k : w.grownBy w' row) (hr : some b ≠ row) : RecB w' b r := (k.block b h.lt hr).trans h
theorem RecB.new (w : World) (r : Rc) : RecB (w.alloc (.cells #[.int .i64 r.kind, .int .i64 r.index, .int .i64 r.term, .string r.data] 38)) w.heap.size r := heap_alloc_new w _

set_option maxHeartbeats 4000000 in
theorem get_empty (s : ByteArray) (w : World) (hs : s.size = 0) :
    Calls Tryd.prog 52 #[.string s] w fun e w' => e = .returned (getV (rc0, 0)) ∧ Below w.heap.size w w' := by
  obtain rfl : s = ⟨#[]⟩ := ByteArray.ext (Array.eq_empty_of_size_eq_zero hs)
  clear hs
  have hn := (RecB.new w rc0).cells
  obtain ⟨⟨c0, c1, c2, c3⟩, f0, f1, f2, f3⟩ := hn
  go_enter Tryd.func52, Tryd.ntmps52
  go_wp2_with fail
  exact bodyPost_ret (v := getV (rc0, 0)) (by simp [results, Tryd.results52, go_sem, getV, recV, rc0]) rfl ⟨rfl, (Below.refl _ w).alloc (Nat.le_refl _) _⟩

theorem get_ret (A : Act) (W : World) (b : Nat) (n : Int) (r : Rc) (Q : Ending → World → Prop) (h2 : A.tmps.getD 2 undef = .pointer (some ⟨b, 0, none⟩)) (h3 : A.tmps.getD 3 undef = .int .i64 n) (hd : A.defers = []) (hr : RecB W b r)
    (hq : Q (.returned (getV (r, n))) W) : bodyPost Tryd.prog Tryd.f52 Q Exit.ret A W := by
  obtain ⟨⟨c0, c1, c2, c3⟩, _⟩ := hr.cells
  have e2 : A.tmps[2]?.getD undef = .pointer (some ⟨b, 0, none⟩) := by simpa using h2
  have e3 : A.tmps[3]?.getD undef = .int .i64 n := by simpa using h3
  exact bodyPost_ret (v := getV (r, n)) (by simp [results, Tryd.results52, go_sem, getV, recV, e2, e3, c0, c1, c2, c3]) hd hq
/-- A record is stored in a block. -/
def setRec (W : World) (b : Nat) (r : Rc) : World :=
  (((W.setCell ⟨b, 0, none⟩ (.int .i64 r.kind)).setCell ⟨b, 1, none⟩ (.int .i64 r.index)).setCell ⟨b, 2, none⟩ (.int .i64 r.term)).setCell ⟨b, 3, none⟩ (.string r.data)
theorem RecB.set {W : World} {b : Nat} {r0 : Rc} (h : RecB W b r0) (r : Rc) : RecB (setRec W b r) b r := by
  have := block_setCell (i := 3) (u := .string r.data) (block_setCell (i := 2) (u := .int .i64 r.term) (block_setCell (i := 1) (u := .int .i64 r.index) (block_setCell (i := 0) (u := .int .i64 r.kind) h)))
  exact this
theorem below_rec {B : Nat} {a W : World} {b : Nat} (h : Below B a W) (hb : B ≤ b) (r : Rc) : Below B a (setRec W b r) :=
  (((h.setCell (p := ⟨b, 0, none⟩) hb _).setCell (p := ⟨b, 1, none⟩) hb _).setCell (p := ⟨b, 2, none⟩) hb _).setCell (p := ⟨b, 3, none⟩) hb _

set_option maxHeartbeats 4000000 in
theorem get_shut (s : ByteArray) (w : World) (h0 : s.size ≠ 0)
    (HO : Hid (∀ W : World, Below w.heap.size w W → Calls Tryd.prog 81 #[.string s] W fun e w' => e = .returned (.tuple #[.string ⟨#[]⟩, .bool false]) ∧ Below W.heap.size W w')) :
    Calls Tryd.prog 52 #[.string s] w fun e w' => e = .returned (getV (rc0, 2)) ∧ Below w.heap.size w w' := by
  have he := empty_false h0
  have hn := RecB.new w rc0
  have b0 := (Below.refl _ w).alloc (Nat.le_refl _) (.cells #[.int .i64 rc0.kind, .int .i64 rc0.index, .int .i64 rc0.term, .string rc0.data] 38)
  have HO1 := Lib.hid (HO.out _ b0)
  clear HO
  go_enter Tryd.func52, Tryd.ntmps52
  go_wp2_with fail
  refine HO1.out.mono ?_
  rintro e w1 ⟨rfl, hb1⟩
  have hr := hn.below hb1
  obtain ⟨⟨c0, c1, c2, c3⟩, f0, f1, f2, f3⟩ := hr.cells
  have hx := (hr.set rc0).cells.1
  have B1 := below_rec (b0.trans (hb1.mono b0.size)) (Nat.le_refl _) rc0
  clear HO1 hb1 b0 hn
  go_wp2_with fail
  obtain ⟨x0, x1, x2, x3⟩ := hx
  exact bodyPost_ret (v := getV (rc0, 2)) (by simp [results, Tryd.results52, go_sem, getV, recV, rc0, c0, c1, c2, c3]) rfl ⟨rfl, B1⟩

set_option maxHeartbeats 4000000 in
theorem get_text (s : ByteArray) (t : List UInt8) (w : World) (h0 : s.size ≠ 0) (ht : t.length ≤ 140737488355328)
    (HO : Hid (∀ W : World, Below w.heap.size w W → Calls Tryd.prog 81 #[.string s] W fun e w' => e = .returned (.tuple #[.string ⟨t.toArray⟩, .bool true]) ∧ Below W.heap.size W w')) :
    Calls Tryd.prog 52 #[.string s] w fun e w' => e = .returned (getV (if doneF (parseD t).2 = 0 then (parseR t, 1) else (rc0, 2))) ∧ Below w.heap.size w w' := by
  have he := empty_false h0
  have hn := RecB.new w rc0
  have b0 := (Below.refl _ w).alloc (Nat.le_refl _) (.cells #[.int .i64 rc0.kind, .int .i64 rc0.index, .int .i64 rc0.term, .string rc0.data] 38)
  have HO1 := Lib.hid (HO.out _ b0)
  have HNA := Lib.hid (fun (b : Nat) (W : World) (hW : Rs W b (some t)) => show Calls Tryd.prog 74 #[.pointer (some ⟨b, 0, none⟩), .int .i64 281474976710655] W fun e w' => e = .returned (.int .i64 (parseA t).1) ∧ Rs w' b (parseA t).2 ∧ W.grownBy w' (some b) from num_rs b 281474976710655 (some t) W hW)
  have HNB := Lib.hid (fun (b : Nat) (W : World) (hW : Rs W b (parseA t).2) => show Calls Tryd.prog 74 #[.pointer (some ⟨b, 0, none⟩), .int .i64 281474976710655] W fun e w' => e = .returned (.int .i64 (parseB t).1) ∧ Rs w' b (parseB t).2 ∧ W.grownBy w' (some b) from num_rs b 281474976710655 _ W hW)
  have HNC := Lib.hid (fun (b : Nat) (W : World) (hW : Rs W b (parseB t).2) => show Calls Tryd.prog 74 #[.pointer (some ⟨b, 0, none⟩), .int .i64 281474976710655] W fun e w' => e = .returned (.int .i64 (parseC t).1) ∧ Rs w' b (parseC t).2 ∧ W.grownBy w' (some b) from num_rs b 281474976710655 _ W hW)
  have HND := Lib.hid (fun (b : Nat) (W : World) (hW : Rs W b (parseC t).2) => show Calls Tryd.prog 82 #[.pointer (some ⟨b, 0, none⟩), .int .i64 488] W fun e w' => e = .returned (.string ⟨(parseD t).1.toArray⟩) ∧ Rs w' b (parseD t).2 ∧ W.grownBy w' (some b) from text_rs b 488 _ W hW)
  have HRD := Lib.hid (fun (W : World) => pread_any ⟨t.toArray⟩ W)
  have HRS := Lib.hid (fun (W : World) (b : Nat) (h : RdB W b ⟨t.toArray⟩ false) => show Rs W b (some t) from ⟨h, ht⟩)
  obtain ⟨r, hr⟩ : ∃ r, r = parseR t := ⟨_, rfl⟩
  have hr1 : (parseA t).1 = r.kind := by rw [hr]; rfl
  have hr2 : (parseB t).1 = r.index := by rw [hr]; rfl
  have hr3 : (parseC t).1 = r.term := by rw [hr]; rfl
  have hr4 : ByteArray.mk (parseD t).1.toArray = r.data := by rw [hr]; rfl
  rw [← hr]
  rw [hr1] at HNA
  rw [hr2] at HNB
  rw [hr3] at HNC
  rw [hr4] at HND
  clear HO hr hr1 hr2 hr3 hr4
  generalize (parseA t).2 = sa at *
  generalize (parseB t).2 = sb at *
  generalize (parseC t).2 = sc at *
  generalize (parseD t).2 = sd at *
  generalize ByteArray.mk t.toArray = x at *
  obtain ⟨V, hV⟩ : ∃ V : Rc × Int, V = (if doneF sd = 0 then (r, 1) else (rc0, 2)) := ⟨_, rfl⟩
  rw [← hV]
  have HVP := Lib.hid (fun (h : doneF sd = 0) => show V = (r, 1) by rw [hV, if_pos h])
  have HVN := Lib.hid (fun (h : ¬ doneF sd = 0) => show V = (rc0, 2) by rw [hV, if_neg h])
  clear hV
  go_enter Tryd.func52, Tryd.ntmps52
  go_wp2_with fail
  refine HO1.out.mono ?_
  rintro e w1 ⟨rfl, hb1⟩
  have B1 := b0.trans (hb1.mono b0.size)
  have R1 := hn.below hb1
  clear HO1 hb1 b0 hn
  go_wp2_with fail
  refine (HRD.out w1).mono ?_
  rintro e w2 ⟨rfl, hrd, hb2, hs2⟩
  have S2 := HRS.out _ _ hrd
  have R2 := R1.below hb2
  have hne : some w.heap.size ≠ some w1.heap.size := by have := R1.lt; simp; omega
  have B2 := B1.trans (hb2.mono B1.size)
  clear hrd HRD HRS R1
  go_wp2_with fail
  refine (HNA.out _ _ S2).mono ?_
  rintro e w3 ⟨rfl, S3, hg3⟩
  have R3 := R2.kept hg3 hne
  have B3 := B2.grown hg3 B2.size (fun q hq => by obtain rfl := Option.some.inj hq; exact B1.size)
  clear S2 R2 hg3 B2 HNA
  go_wp2_with fail
  refine (HNB.out _ _ S3).mono ?_
  rintro e w4 ⟨rfl, S4, hg4⟩
  have R4 := R3.kept hg4 hne
  have B4 := B3.grown hg4 B3.size (fun q hq => by obtain rfl := Option.some.inj hq; exact B1.size)
  clear S3 R3 hg4 B3 HNB
  go_wp2_with fail
  refine (HNC.out _ _ S4).mono ?_
  rintro e w5 ⟨rfl, S5, hg5⟩
  have R5 := R4.kept hg5 hne
  have B5 := B4.grown hg5 B4.size (fun q hq => by obtain rfl := Option.some.inj hq; exact B1.size)
  clear S4 R4 hg5 B4 HNC
  go_wp2_with fail
  refine (HND.out _ _ S5).mono ?_
  rintro e w6 ⟨rfl, S6, hg6⟩
  have R6 := R5.kept hg6 hne
  have B6 := B5.grown hg6 B5.size (fun q hq => by obtain rfl := Option.some.inj hq; exact B1.size)
  clear S5 R5 hg6 B5 HND
  have b7 := (Below.refl w6.heap.size w6).alloc (Nat.le_refl _) (.cells #[.int .i64 r.kind, .int .i64 r.index, .int .i64 r.term, .string r.data] 38)
  have HD := Lib.hid (done_rs _ sd _ (S6.below b7))
  have R7 := R6.below b7
  have N7 := RecB.new w6 r
  have B7 := B6.trans (b7.mono B6.size)
  clear b7 S6
  obtain ⟨⟨c0, c1, c2, c3⟩, f0, f1, f2, f3⟩ := R7.cells
  obtain ⟨⟨n0, n1, n2, n3⟩, _⟩ := N7.cells
  by_cases hz : doneF sd = 0
  · have HV := Lib.hid (HVP.out hz)
    rw [hz] at HD
    have B8 := below_rec B7 (Nat.le_refl _) r
    clear hz
    go_wp2_with (go_at_call 75; refine HD.out.mono ?_; rintro e w' ⟨rfl, rfl⟩)
    exact get_ret _ (setRec _ w.heap.size r) _ 1 r _ rfl rfl rfl (R7.set r) ⟨by rw [HV.out], B8⟩
  · have HV := Lib.hid (HVN.out hz)
    have hzz : (doneF sd == 0) = false := by simpa using hz
    have B8 := below_rec B7 (Nat.le_refl _) rc0
    clear hz
    go_wp2_with (go_at_call 75; refine HD.out.mono ?_; rintro e w' ⟨rfl, rfl⟩)
    exact get_ret _ (setRec _ w.heap.size rc0) _ 2 rc0 _ rfl rfl rfl (R7.set rc0) ⟨by rw [HV.out], B8⟩

/-- Get, whatever the bytes. -/
theorem get_any (s : ByteArray) (w : World) (ht : Tabs w) (hs : s.size ≤ 140737488355328) :
    Calls Tryd.prog 52 #[.string s] w fun e w' => e = .returned (getV (getF s)) ∧ Below w.heap.size w w' := by
  by_cases h0 : s.size = 0
  · rw [show getF s = (rc0, 0) by unfold getF; rw [if_pos h0]]
    exact get_empty s w h0
  · by_cases h4 : s.size < 4
    · rw [show getF s = (rc0, 2) by unfold getF; rw [if_neg h0, if_pos h4]]
      exact get_shut s w h0 (fun W hW => open_short s W h4)
    · by_cases ho : opensN s.data.toList = true
      · rw [show getF s = (if doneF (parseD (s.data.toList.drop 4)).2 = 0 then (parseR (s.data.toList.drop 4), 1) else (rc0, 2)) by unfold getF; rw [if_neg h0, if_neg h4, if_pos ho]]
        refine get_text s _ w h0 (by rw [List.length_drop, ← Lib.size_eq]; omega) (fun W hW => ?_)
        exact open_any s W (by omega) (ht.below hW) hs true ho.symm
      · rw [show getF s = (rc0, 2) by unfold getF; rw [if_neg h0, if_neg h4, if_neg ho]]
        refine get_shut s w h0 (fun W hW => ?_)
        exact open_any s W (by omega) (ht.below hW) hs false (by rw [Bool.not_eq_true] at ho; exact ho.symm)
end Go.Proofs.YtpjbkeheemhlnaaDoor
