/- HeadFaults: with one copy damaged, lost or a byte turned, the head is told, and made good by Scrub; with both damaged Open answers ErrBad; no condition on the input (the two tables start as the program text lays them). -/
import Derived.Test.YtpjbkeheemhlnaaDoorHeadEq
import Derived.Test.YtpjbkeheemhlnaaDoorCards
import Derived.Test.YtpjbkeheemhlnaaDoorTie
import Derived.ProofKit
import Derived.OpenShut
import Derived.ShutString
import Derived.ChangeOld
import Derived.Deep.DeepHandedRow
import Derived.Lib.LaidTab
import Derived.Stop.LaidErr
namespace Go.Proofs.YtpjbkeheemhlnaaDoor.headFaults
open Go.ChangeShapes Go.WideShapes Go.ChangeAt Go.RowKit
open Go.ChangeMaps (open_string shut_string)
set_option linter.unusedVariables false
set_option maxRecDepth 100000
theorem u8_or1 (x : Int) (h : 0 ≤ x ∧ x ≤ 255) : ∃ bt : Nat, bits .or .u8 x 1 = (bt : Int) ∧ bt ≠ 0 ∧ bt < 256 := by
  have key : ∀ n : Fin 256, ∃ bt : Fin 256, bits .or .u8 (n.val : Int) 1 = (bt.val : Int) ∧ bt.val ≠ 0 := by decide +kernel
  obtain ⟨n, rfl⟩ := Int.eq_ofNat_of_zero_le h.1
  obtain ⟨bt, h1, h2⟩ := key ⟨n, by omega⟩
  exact ⟨bt.val, h1, h2, bt.isLt⟩
theorem wrap_par (z : Int) : IntKind.i64.wrap (z + 1) % 2 = (z + 1) % 2 := by
  rw [IntKind.wrap_i64]
  omega
/-- What is done to a block: lost, or a byte turned. -/
def harm (lose : Bool) (at' : Int) (bt : Nat) (b : Blk) : Blk := if lose = true then b.lose else b.flip at' bt
theorem rd_harm {r : Rc} (ho : r.Ok) (lose : Bool) (at' : Int) (bt : Nat) (h0 : bt ≠ 0) (hb : bt < 256) : rd (harm lose at' bt (good r)) = (rc0, 2) := by
  unfold harm
  cases lose with
  | true => exact rd_lost rfl
  | false =>
    have e : (good r).flip at' bt = ⟨flipS r.bytes at' bt, true, false, []⟩ := by
      have hs := bytes_size ho
      unfold Blk.flip good
      rw [if_neg]
      rintro (h | h | h)
      · exact h0 h
      · simp only at h; omega
      · cases h
    rw [if_neg (by decide), e]
    unfold rd
    rw [if_neg (show ¬ (false = true) by decide), contents_nil rfl]
    exact get_flipped ho at' bt h0 hb
theorem of_one {w : World} {b : Nat} {v : Value} {t : TypeId} (h : w.heap[b]? = some (.cells #[v] t (0, 0))) : w.cell? ⟨b, 0, none⟩ = some v ∧ w.frozen? ⟨b, 0, none⟩ = false := ⟨cell_of h rfl, free_of h⟩
set_option maxHeartbeats 4000000 in
/-- The law's 'hurt'. -/
theorem hurt_any {n : Nat} {E : Nat → Prop} {w : World} {B : Nat} {D : Dv} (i : Int) (bl bd ba bb : Nat) (lose : Bool) (at' x : Int) (bt : Nat) (hX : DevW n E w B D) (hn : n ≤ w.heap.size) (ha : -9223372036854775808 ≤ at' ∧ at' ≤ 9223372036854775807)
    (hbt : bits .or .u8 x 1 = (bt : Int)) (hb : bt < 256)
    (h1 : w.heap[bl]? = some (.cells #[.bool lose] 4 (0, 0))) (h2 : w.heap[bd]? = some (.cells #[.pointer (some ⟨B, 0, none⟩)] 26 (0, 0)))
    (h3 : w.heap[ba]? = some (.cells #[.int .i64 at'] 3 (0, 0))) (h4 : w.heap[bb]? = some (.cells #[.int .u8 x] 5 (0, 0))) :
    Calls Tryd.prog 25 #[.int .i64 i, .pointer (some ⟨bl, 0, none⟩), .pointer (some ⟨bd, 0, none⟩), .pointer (some ⟨ba, 0, none⟩), .pointer (some ⟨bb, 0, none⟩)] w fun e w' => e = .returned (.tuple #[]) ∧ DevW n E w' B (D.onB i (harm lose at' bt)) ∧ Below n w w' ∧ Kept E w w' := by
  have c1 := (of_one h1).1
  have c2 := (of_one h2).1
  have c3 := (of_one h3).1
  have c4 := (of_one h4).1
  cases lose with
  | true =>
    have HL := Lib.hid (devw_lose i hn hX)
    have HE : Hid (D.onB i (harm true at' bt) = D.onB i Blk.lose) := rfl
    clear h1 h2 h3 h4 hX
    go_enter Tryd.func25, Tryd.ntmps25
    go_wp2_with fail
    refine HL.out.mono ?_
    rintro e w1 ⟨rfl, X1, hb1, hk1⟩
    go_wp2_with fail
    refine bodyPost_ret (results_none rfl _ _ _) rfl ?_
    exact ⟨rfl, by rw [HE.out]; exact X1, hb1, hk1⟩
  | false =>
    have HL := Lib.hid (devw_flip i at' bt ha hb hn hX)
    have HE : Hid (D.onB i (harm false at' bt) = D.onB i fun b => b.flip at' bt) := rfl
    clear h1 h2 h3 h4 hX
    go_enter Tryd.func25, Tryd.ntmps25
    go_wp2_with fail
    refine HL.out.mono ?_
    rintro e w1 ⟨rfl, X1, hb1, hk1⟩
    go_wp2_with fail
    go_end0
    exact ⟨rfl, by rw [HE.out]; exact X1, hb1, hk1⟩

/-- One cell's block. -/
def OneB (w : World) (b : Nat) (v : Value) (t : TypeId) : Prop := w.heap[b]? = some (.cells #[v] t (0, 0))
theorem OneB.lt {w : World} {b : Nat} {v : Value} {t : TypeId} (h : OneB w b v t) : b < w.heap.size := lt_of_block h
theorem OneB.below {w w' : World} {b : Nat} {v : Value} {t : TypeId} (h : OneB w b v t) (k : Below w.heap.size w w') : OneB w' b v t := (k.block b h.lt).trans h
theorem OneB.keep {E : Nat → Prop} {w w' : World} {b : Nat} {v : Value} {t : TypeId} (h : OneB w b v t) (k : Kept E w w') (hb : E b) : OneB w' b v t := (k b hb).trans h
theorem OneB.new (w : World) (v : Value) (t : TypeId) : OneB (w.alloc (.cells #[v] t)) w.heap.size v t := heap_alloc_new w _
/-- The blocks of the law's variables. -/
structure Vars (n bd B : Nat) (h : Hd) (at' x : Int) (lose : Bool) (w : World) : Prop where
  hd : HdB w n h
  at1 : OneB w (n + 1) (.int .i64 at') 3
  bt : OneB w (n + 1 + 1) (.int .u8 x) 5
  lo : OneB w (n + 1 + 1 + 1) (.bool lose) 4
  dv : OneB w bd (.pointer (some ⟨B, 0, none⟩)) 26
def VarE (n bd : Nat) : Nat → Prop := fun k => (n ≤ k ∧ k ≤ n + 3) ∨ k = bd
theorem Vars.below {n bd B : Nat} {h : Hd} {at' x : Int} {lose : Bool} {w w' : World} (k : Vars n bd B h at' x lose w) (b : Below w.heap.size w w') : Vars n bd B h at' x lose w' :=
  ⟨k.hd.below b, k.at1.below b, k.bt.below b, k.lo.below b, k.dv.below b⟩
theorem Vars.keep {n bd B : Nat} {h : Hd} {at' x : Int} {lose : Bool} {w w' : World} {E : Nat → Prop} (k : Vars n bd B h at' x lose w) (b : Kept E w w') (hE : ∀ j, VarE n bd j → E j) : Vars n bd B h at' x lose w' :=
  ⟨k.hd.keep b (hE _ (.inl (by omega))), k.at1.keep b (hE _ (.inl (by omega))), k.bt.keep b (hE _ (.inl (by omega))), k.lo.keep b (hE _ (.inl (by omega))), k.dv.keep b (hE _ (.inr rfl))⟩
theorem Vars.lt {n bd B : Nat} {h : Hd} {at' x : Int} {lose : Bool} {w : World} (k : Vars n bd B h at' x lose w) : ∀ j, VarE n bd j → j < w.heap.size := by
  intro j hj
  have := k.lo.lt
  rcases hj with hj | rfl
  · omega
  · exact k.dv.lt
theorem Vars.ne {n bd B : Nat} {h : Hd} {at' x : Int} {lose : Bool} {w : World} (k : Vars n bd B h at' x lose w) {sb : Nat} (hs : w.heap.size ≤ sb) : ∀ j, VarE n bd j → j ≠ sb := by
  intro j hj e
  have := k.lt j hj
  omega
/-- Five blocks made one after another. -/
theorem vars4 (w : World) (h : Hd) (at' x : Int) (lose : Bool) :
    (HdB ((((w.alloc (.cells #[.int .i64 h.term, .int .i64 h.vote, .int .i64 h.first, .int .i64 h.base] 23)).alloc (.cells #[.int .i64 at'] 3)).alloc (.cells #[.int .u8 x] 5)).alloc (.cells #[.bool lose] 4)) w.heap.size h ∧
    OneB ((((w.alloc (.cells #[.int .i64 h.term, .int .i64 h.vote, .int .i64 h.first, .int .i64 h.base] 23)).alloc (.cells #[.int .i64 at'] 3)).alloc (.cells #[.int .u8 x] 5)).alloc (.cells #[.bool lose] 4)) (w.heap.size + 1) (.int .i64 at') 3 ∧
    OneB ((((w.alloc (.cells #[.int .i64 h.term, .int .i64 h.vote, .int .i64 h.first, .int .i64 h.base] 23)).alloc (.cells #[.int .i64 at'] 3)).alloc (.cells #[.int .u8 x] 5)).alloc (.cells #[.bool lose] 4)) (w.heap.size + 1 + 1) (.int .u8 x) 5 ∧
    OneB ((((w.alloc (.cells #[.int .i64 h.term, .int .i64 h.vote, .int .i64 h.first, .int .i64 h.base] 23)).alloc (.cells #[.int .i64 at'] 3)).alloc (.cells #[.int .u8 x] 5)).alloc (.cells #[.bool lose] 4)) (w.heap.size + 1 + 1 + 1) (.bool lose) 4) ∧
    Below w.heap.size w ((((w.alloc (.cells #[.int .i64 h.term, .int .i64 h.vote, .int .i64 h.first, .int .i64 h.base] 23)).alloc (.cells #[.int .i64 at'] 3)).alloc (.cells #[.int .u8 x] 5)).alloc (.cells #[.bool lose] 4)) := by
  obtain ⟨w1, h1⟩ : ∃ w1, w1 = w.alloc (.cells #[.int .i64 h.term, .int .i64 h.vote, .int .i64 h.first, .int .i64 h.base] 23) := ⟨_, rfl⟩
  obtain ⟨w2, h2⟩ : ∃ w2, w2 = w1.alloc (.cells #[.int .i64 at'] 3) := ⟨_, rfl⟩
  obtain ⟨w3, h3⟩ : ∃ w3, w3 = w2.alloc (.cells #[.int .u8 x] 5) := ⟨_, rfl⟩
  obtain ⟨w4, h4⟩ : ∃ w4, w4 = w3.alloc (.cells #[.bool lose] 4) := ⟨_, rfl⟩
  have s1 : w1.heap.size = w.heap.size + 1 := by rw [h1]; simp
  have s2 : w2.heap.size = w.heap.size + 1 + 1 := by rw [h2, World.size_alloc, s1]
  have s3 : w3.heap.size = w.heap.size + 1 + 1 + 1 := by rw [h3, World.size_alloc, s2]
  have a1 : Below w.heap.size w w1 := by rw [h1]; exact (Below.refl _ w).alloc (Nat.le_refl _) _
  have a2 : Below w1.heap.size w1 w2 := by rw [h2]; exact (Below.refl _ w1).alloc (Nat.le_refl _) _
  have a3 : Below w2.heap.size w2 w3 := by rw [h3]; exact (Below.refl _ w2).alloc (Nat.le_refl _) _
  have a4 : Below w3.heap.size w3 w4 := by rw [h4]; exact (Below.refl _ w3).alloc (Nat.le_refl _) _
  have e1 : HdB w1 w.heap.size h := by rw [h1]; exact HdB.new w h
  have e2 : OneB w2 (w.heap.size + 1) (.int .i64 at') 3 := by rw [← s1, h2]; exact OneB.new w1 _ _
  have e3 : OneB w3 (w.heap.size + 1 + 1) (.int .u8 x) 5 := by rw [← s2, h3]; exact OneB.new w2 _ _
  have e4 : OneB w4 (w.heap.size + 1 + 1 + 1) (.bool lose) 4 := by rw [← s3, h4]; exact OneB.new w3 _ _
  rw [← h1, ← h2, ← h3, ← h4]
  exact ⟨⟨((e1.below a2).below a3).below a4, (e2.below a3).below a4, e3.below a4, e4⟩, ((a1.trans (a2.mono a1.size)).trans (a3.mono (a1.trans (a2.mono a1.size)).size)).trans (a4.mono ((a1.trans (a2.mono a1.size)).trans (a3.mono (a1.trans (a2.mono a1.size)).size)).size)⟩

theorem harm_open {h : Hd} (ho : h.Ok) (i : Int) (hi : 0 ≤ i ∧ i < 281474976710655) (c : Int) (hc : c = 0 ∨ c = 1) (lose : Bool) (at' : Int) (bt : Nat) (h0 : bt ≠ 0) (hb : bt < 256) :
    ((P2 (good (copyR h i)) (good (copyR h i)) 2).onB c (harm lose at' bt)).hopen = (copyR h i, 0) ∧ ((P2 (good (copyR h i)) (good (copyR h i)) 2).onB c (harm lose at' bt)).writes = 0 ∧
    ((P2 (good (copyR h i)) (good (copyR h i)) 2).onB c (harm lose at' bt)).scrub (copyR h i) = (0, P2 (good (copyR h (i + 1))) (good (copyR h (i + 1))) 2, copyR h (i + 1)) := by
  have hr := rd_harm (copy_ok ho (show 0 ≤ i ∧ i ≤ 281474976710655 by omega)) lose at' bt h0 hb
  have hx : (rd (harm lose at' bt (good (copyR h i)))).1 = rc0 := by rw [hr]
  have hy : (rd (harm lose at' bt (good (copyR h i)))).1 ≠ copyR h i := by rw [hx]; exact fun e => copy_ne h i e.symm
  rcases hc with rfl | rfl
  · rw [show (P2 (good (copyR h i)) (good (copyR h i)) 2).onB 0 (harm lose at' bt) = P2 (harm lose at' bt (good (copyR h i))) (good (copyR h i)) 2 from Dx_on0 _]
    exact ⟨open_bad0 ho (by omega) hx 2, rfl, scrub_bad0 ho hi hx 2⟩
  · rw [show (P2 (good (copyR h i)) (good (copyR h i)) 2).onB 1 (harm lose at' bt) = P2 (good (copyR h i)) (harm lose at' bt (good (copyR h i))) 2 from Dx_on1 _]
    exact ⟨open_bad1 ho (by omega) hx 2, rfl, scrub_bad1 ho hi hy 2⟩
theorem harm_both {h : Hd} (ho : h.Ok) (i : Int) (hi : 0 ≤ i ∧ i ≤ 281474976710655) (lose : Bool) (at' : Int) (bt : Nat) (h0 : bt ≠ 0) (hb : bt < 256) :
    (((P2 (good (copyR h i)) (good (copyR h i)) 2).onB 0 (harm lose at' bt)).onB 1 (harm lose at' bt)).hopen = (rc0, 6) ∧ (((P2 (good (copyR h i)) (good (copyR h i)) 2).onB 0 (harm lose at' bt)).onB 1 (harm lose at' bt)).writes = 0 := by
  have hr := rd_harm (copy_ok ho hi) lose at' bt h0 hb
  rw [show (P2 (good (copyR h i)) (good (copyR h i)) 2).onB 0 (harm lose at' bt) = P2 (harm lose at' bt (good (copyR h i))) (good (copyR h i)) 2 from Dx_on0 _,
    show (P2 (harm lose at' bt (good (copyR h i))) (good (copyR h i)) 2).onB 1 (harm lose at' bt) = P2 (harm lose at' bt (good (copyR h i))) (harm lose at' bt (good (copyR h i))) 2 from Dx_on1 _]
  exact ⟨Dx_lost (by rw [hr]) hr, rfl⟩

set_option maxHeartbeats 4000000 in
theorem walk (v0 : Value) (h : Hd) (x1 : Int) (at' : Int) (x3 : Int) (lose : Bool) (w : World) (w0 : v0 = headV h ∧ h.Fits) (w1 : (Lit.int .i64 x1).wf = true) (w2 : (Lit.int .i64 at').wf = true) (w3 : (Lit.int .u8 x3).wf = true) (hT : Tabs w) :
    Calls Tryd.prog 5 #[v0, .int .i64 x1, .int .i64 at', .int .u8 x3, .bool lose] w fun e w' => e = .returned (.bool true) ∧ Below w.heap.size w w' := by
  obtain ⟨rfl, fh⟩ := w0
  have hat := i64_wf w2
  have hx3 := (Lit.wf_int_iff .u8 x3).1 w3
  rw [show IntKind.u8.min = 0 by decide, show IntKind.u8.max = 255 by decide] at hx3
  obtain ⟨bt, hbt, hbt0, hbt1⟩ := u8_or1 x3 hx3
  obtain ⟨⟨n0, n1, n2, n3⟩, b0⟩ := vars4 w h at' x3 lose
  have HB := Lib.hid (begin_any _ (hT.below b0))
  have HT := Lib.hid hT
  have HTb := Lib.hid (fun (W x : World) (h : Below w.heap.size w W) (k : Below w.heap.size W x) => hT.below (h.trans k))
  have hmf : ∀ (fn : Fn) (first cap : Array Value) (W : World), (Instr.makeFunc fn first cap).run Tryd.prog W = .ok (.func fn first cap) W := fun _ _ _ _ => rfl
  have hand := i64_and1
  clear hT fh w1 w2 w3 hx3
  by_cases ho : h.Ok
  · have HR := Lib.hid (fun (W : World) => right_any h W true (by simpa using ho))
    have HR1 := Lib.hid (show (copyR h 1).Ok from copy_ok ho (by decide))
    have H2 := Lib.hid (show (P2 blk0 blk0 2).two 0 (copyR h (rc0.index + 1)) = (0, P2 (good (copyR h 1)) (good (copyR h 1)) 2) from Dx_two0 HR1.out)
    have HHO := Lib.hid (fun (i : Int) (hi : 0 ≤ i ∧ i < 281474976710655) (c : Int) (hc : c = 0 ∨ c = 1) => harm_open ho i hi c hc lose at' bt hbt0 hbt1)
    have HHB := Lib.hid (harm_both ho 3 (by decide) lose at' bt hbt0 hbt1)
    have HO := Lib.hid ho
    have HAT := Lib.hid hat
    have HBT := Lib.hid hbt
    have HBL := Lib.hid hbt1
    have heq := ne_hd h
    clear ho hat hbt hbt0 hbt1
    unfold headV
    go_enter Tryd.func5, Tryd.ntmps5
    go_wp2_with fail
    refine HB.out.mono ?_
    rintro e w1 ⟨rfl, hb⟩
    have N1 := n0.below hb
    have A1 := n1.below hb
    have T1 := n2.below hb
    have L1 := n3.below hb
    have B1 := b0.trans (hb.mono b0.size)
    obtain ⟨⟨c0, c1, c2, c3⟩, _⟩ := N1.cells
    clear hb n0 n1 n2 n3 b0 HB
    go_wp2_with fail
    refine (HR.out _).mono ?_
    rintro e w2 ⟨rfl, hb⟩
    have N2 := N1.below hb
    have A2 := A1.below hb
    have T2 := T1.below hb
    have L2 := L1.below hb
    have B2 := B1.trans (hb.mono B1.size)
    clear hb N1 A1 T1 L1 c0 c1 c2 c3 B1
    go_wp2_with fail
    refine (new_any 4 w2).mono ?_
    rintro e w3 ⟨B, rfl, hd, hb⟩
    rw [show Dv.new 4 = P2 blk0 blk0 2 from P2_new 2 (by decide)] at hd
    have b4 := (Below.refl w3.heap.size w3).alloc (Nat.le_refl _) (.cells #[.pointer (some ⟨B, 0, none⟩)] 26)
    have V4 : Vars w.heap.size w3.heap.size B h at' x3 lose (w3.alloc (.cells #[.pointer (some ⟨B, 0, none⟩)] 26)) := ⟨(N2.below hb).below b4, (A2.below hb).below b4, (T2.below hb).below b4, (L2.below hb).below b4, OneB.new w3 _ _⟩
    have Y3 : DevW w.heap.size (fun j => w.heap.size ≤ j ∧ j ≤ w.heap.size + 3) w3 B (P2 blk0 blk0 2) := devw_new hd B2.size (fun j hj => by have := L2.lt; omega) hb.size
    have X4 : DevW w.heap.size (VarE w.heap.size w3.heap.size) (w3.alloc (.cells #[.pointer (some ⟨B, 0, none⟩)] 26)) B (P2 blk0 blk0 2) := (Y3.grow b4 (Nat.le_refl _) (by simp)).less (fun k hk => hk)
    have B4 := (B2.trans (hb.mono B2.size)).trans (b4.mono (B2.trans (hb.mono B2.size)).size)
    obtain ⟨d0, d1⟩ := of_one V4.dv
    clear hd hb b4 N2 A2 T2 L2 Y3 B2
    go_wp2_with fail
    refine (hw_open rc0 X4 (HT.out.below B4) (Nat.zero_le _) B4.size (P2_fresh 2)).mono ?_
    rintro e w5 ⟨sb, rfl, S5, hsb, X5, hb⟩
    have hnb := Nat.le_trans B4.size hsb
    have hne := V4.ne hsb
    have V5 := V4.below hb
    have B5 := B4.trans (hb.mono B4.size)
    obtain ⟨⟨c0, c1, c2, c3⟩, _⟩ := V5.hd.cells
    clear hb V4 X4 B4 hsb d0 d1
    go_wp2_with fail
    refine (hw_put sb rc0 h 0 _ X5 S5 (.inr rfl) B5.size hnb (fun x k => HTb.out _ x B5 k) (by exact Nat.zero_le _) HO.out (by decide) H2.out).mono ?_
    rintro e w6 ⟨rfl, X6, hb, S6, hk⟩
    have V6 := V5.keep hk (fun j hj => ⟨.inl hj, hne j hj⟩)
    have B6 := B5.trans hb
    have X6 : DevW w.heap.size (VarE w.heap.size w3.heap.size) w6 B (P2 (good (copyR h 1)) (good (copyR h 1)) 2) := X6.less (fun k hk => .inl hk)
    clear hb hk S5 S6 V5 X5 B5 c0 c1 c2 c3 hnb hne
    generalize w3.heap.size = bd at *
    go_wp2_with fail
    go_loopw [1, 15] (fun z i wr => ∃ (k : Nat) (zz : Int), k ≤ 2 ∧ z = .int .i64 zz ∧ i = .int .i64 k ∧ DevW w.heap.size (VarE w.heap.size bd) wr B (P2 (good (copyR h (1 + k))) (good (copyR h (1 + k))) 2) ∧ Vars w.heap.size bd B h at' x3 lose wr ∧ Below w.heap.size w wr) (fun _ i _ => 2 - (intOf i).toNat)
    case atStart => exact ⟨0, x1, by omega, rfl, rfl, X6, V6, B6⟩
    case round =>
      obtain ⟨k, zz, hk, rfl, rfl, Xk, Vk, Bk⟩ := hrel
      clear X6 V6 B6
      by_cases hlt : k < 2
      · have hlt' : (k : Int) < 2 := by omega
        obtain ⟨c, hc⟩ : ∃ c : Int, zz % 2 = c := ⟨_, rfl⟩
        have hc2 : c = 0 ∨ c = 1 := by omega
        have HH1 := Lib.hid (HHO.out (1 + k) (by omega) c hc2)
        clear hc2
        have HL1 := Lib.hid (headL_copy HO.out (1 + (k : Int)))
        have hk1 : (1 + (k : Int) + 1) = 1 + ((k + 1 : Nat) : Int) := by omega
        have HLI := Lib.hid (show -1 ≤ (copyR h (1 + (k : Int))).index ∧ (copyR h (1 + (k : Int))).index ≤ 281474976710654 from ⟨show -1 ≤ 1 + (k : Int) by omega, show 1 + (k : Int) ≤ 281474976710654 by omega⟩)
        go_wp2_with fail
        refine (hurt_any c _ bd _ _ lose at' x3 bt Xk Bk.size HAT.out HBT.out HBL.out Vk.lo Vk.dv Vk.at1 Vk.bt).mono ?_
        rintro e w7 ⟨rfl, X7, hb, hkk⟩
        have V7 := Vk.keep hkk (fun j hj => hj)
        have B7 := Bk.trans hb
        obtain ⟨d0, d1⟩ := of_one V7.dv
        clear hb hkk Xk Vk Bk
        go_wp2_with fail
        refine (hw_open (copyR h (1 + k)) X7 (HT.out.below B7) (by rw [HH1.out.2.1]; exact Nat.zero_le _) B7.size HH1.out.1).mono ?_
        rintro e w8 ⟨tb, rfl, S8, hsb, X8, hb⟩
        have hnb := Nat.le_trans B7.size hsb
        have hne := V7.ne hsb
        have V8 := V7.below hb
        have B8 := B7.trans (hb.mono B7.size)
        obtain ⟨⟨c0, c1, c2, c3⟩, _⟩ := V8.hd.cells
        have HH8 := Lib.hid (head_says tb B (copyR h (1 + k)) h w8.drew S8 HL1.out (by rw [copy_size]; decide))
        have X8d := X8.drew
        have S8d : StB w8.drew tb B (copyR h (1 + k)) := S8
        have V8d : Vars w.heap.size bd B h at' x3 lose w8.drew := ⟨V8.hd, V8.at1, V8.bt, V8.lo, V8.dv⟩
        have B8d := B8.drew
        clear hb S8 X7 X8 B7 V7 hsb d0 d1
        unfold headV at HH8
        go_wp2_with fail
        go_region_held3 (fun w' => w'.cell? ⟨w.heap.size, 0, none⟩ = some (.int .i64 h.term) ∧ w'.cell? ⟨w.heap.size, 1, none⟩ = some (.int .i64 h.vote) ∧ w'.cell? ⟨w.heap.size, 2, none⟩ = some (.int .i64 h.first) ∧ w'.cell? ⟨w.heap.size, 3, none⟩ = some (.int .i64 h.base)) (first | (with_reducible assumption) | (refine ⟨?_, ?_, ?_, ?_⟩ <;> with_reducible assumption) | go_keep)
          (first
            | (go_at_call 21; refine HH8.out.mono ?_; rintro e w9 ⟨rfl, hb9⟩; have X9 := X8d.below hb9; have S9 := S8d.below hb9; have V9 := V8d.below hb9; have B9 := B8d.trans (hb9.mono B8d.size); obtain ⟨⟨q0, q1, q2, q3⟩, _⟩ := V9.hd.cells)
            | (go_at_call 22; refine (hw_scrub tb (copyR h (1 + k)) 0 _ _ X9 S9 (.inr rfl) B9.size hnb (fun x k => HTb.out _ x B9 k) (by rw [HH1.out.2.1]; exact Nat.zero_le _) (.inr (by rw [HL1.out]; exact HO.out)) HLI.out (by rw [copy_size]; decide) HH1.out.2.2).mono ?_; rintro e w10 ⟨rfl, X10, hb10, S10, hk10⟩; have V10 := V9.keep hk10 (fun j hj => ⟨.inl hj, hne j hj⟩); have B10 := B9.trans hb10; obtain ⟨⟨r0, r1, r2, r3⟩, _⟩ := V10.hd.cells))
        all_goals
          rw [hk1] at X10
          have X11 := X10.less (F := VarE w.heap.size bd) (fun k hk => .inl hk)
          go_wp2_with fail
          go_roundw
          case rel => exact ⟨k + 1, _, by omega, rfl, by go_num, X11, V10, B10⟩
          case measure => simp [intOf]; omega
      · obtain rfl : k = 2 := by omega
        have Xk : DevW w.heap.size (VarE w.heap.size bd) wr B (P2 (good (copyR h 3)) (good (copyR h 3)) 2) := Xk
        go_wp2_with fail
        refine (hurt_any 0 _ bd _ _ lose at' x3 bt Xk Bk.size HAT.out HBT.out HBL.out Vk.lo Vk.dv Vk.at1 Vk.bt).mono ?_
        rintro e w7 ⟨rfl, X7, hb, hkk⟩
        have V7 := Vk.keep hkk (fun j hj => hj)
        have B7 := Bk.trans hb
        clear hb hkk Xk Vk Bk
        go_wp2_with fail
        refine (hurt_any 1 _ bd _ _ lose at' x3 bt X7 B7.size HAT.out HBT.out HBL.out V7.lo V7.dv V7.at1 V7.bt).mono ?_
        rintro e w8 ⟨rfl, X8, hb, hkk⟩
        have V8 := V7.keep hkk (fun j hj => hj)
        have B8 := B7.trans hb
        obtain ⟨d0, d1⟩ := of_one V8.dv
        clear hb hkk X7 V7 B7
        go_wp2_with fail
        refine (hw_fail rc0 6 X8 (HT.out.below B8) (by rw [HHB.out.2]; exact Nat.zero_le _) HHB.out.1 (by decide)).mono ?_
        rintro e w9 ⟨rfl, X9, hb⟩
        have B9 := B8.trans (hb.mono B8.size)
        clear hb X8 X9 V8 B8 d0 d1
        go_wp2_with fail
        refine (new_any 4 w9).mono ?_
        rintro e w10 ⟨C, rfl, hd, hb⟩
        rw [show Dv.new 4 = P2 blk0 blk0 2 from P2_new 2 (by decide)] at hd
        have X10 : DevW w.heap.size (fun _ => False) w10 C (P2 blk0 blk0 2) := devw_new hd B9.size (fun j hj => hj.elim) hb.size
        have B10 := B9.trans (hb.mono B9.size)
        clear hd hb B9
        go_wp2_with fail
        refine (hw_open rc0 X10 (HT.out.below B10) (Nat.zero_le _) B10.size (P2_fresh 2)).mono ?_
        rintro e w11 ⟨ub, rfl, S11, hsb, X11, hb⟩
        have hnb := Nat.le_trans B10.size hsb
        have B11 := B10.trans (hb.mono B10.size)
        clear hb X10 B10 hsb
        go_wp2_with fail
        refine (hw_scrub ub rc0 0 _ _ X11 S11 (.inr rfl) B11.size hnb (fun x k => HTb.out _ x B11 k) (by exact Nat.zero_le _) (.inl rfl) (by decide) (by decide) (scrub_fresh _ rfl rfl)).mono ?_
        rintro e w12 ⟨rfl, X12, hb, S12, hkk⟩
        have B12 := B11.trans hb
        clear hb hkk X11 X12 S11 B11
        have HHF := Lib.hid (head_says ub C rc0 hd1 _ S12 headL_zero (by decide))
        unfold headV hd1 at HHF
        go_wp2_with fail
        refine HHF.out.mono ?_
        rintro e w13 ⟨rfl, hb⟩
        have B13 := B12.trans (hb.mono B12.size)
        clear hb S12 B12 HHF
        go_wp2_with fail
        go_ret
        exact ⟨rfl, B13⟩
  · have HR := Lib.hid (fun (W : World) => right_any h W false (by simpa using ho))
    clear ho
    unfold headV
    go_enter Tryd.func5, Tryd.ntmps5
    go_wp2_with fail
    refine HB.out.mono ?_
    rintro e w1 ⟨rfl, hb⟩
    have N1 := n0.below hb
    have B1 := b0.trans (hb.mono b0.size)
    obtain ⟨⟨c0, c1, c2, c3⟩, _⟩ := N1.cells
    clear hb n0 n1 n2 n3 b0 HB
    go_wp2_with fail
    refine (HR.out _).mono ?_
    rintro e w2 ⟨rfl, hb⟩
    have B2 := B1.trans (hb.mono B1.size)
    go_wp2_with fail
    go_ret
    exact ⟨rfl, B2⟩

theorem own : ownKnob Tryd.prog.godebug = none := by kernel_rfl
theorem laidOut : laidOutB Tryd.prog = true := by kernel_rfl
theorem gHi : Tryd.prog.globalNamed "orchard/sum.highTable" = some 0 := by kernel_rfl
theorem gLo : Tryd.prog.globalNamed "orchard/sum.lowTable" = some 1 := by kernel_rfl
theorem gHiType : (Tryd.prog.globals[0]?).map (·.type) = some 165 := by kernel_rfl
theorem gLoType : (Tryd.prog.globals[1]?).map (·.type) = some 165 := by kernel_rfl
theorem cellsTab : Tryd.prog.cellsOf 165 = 16 := by kernel_rfl
theorem cellsSum : Tryd.prog.cellsOf 158 = 1 := by kernel_rfl

theorem table_lo {W : World} (h : laidMetH Tryd.prog Rows.headFaultsRow.laid W) : Lib.TabIs Tryd.prog W "orchard/sum.lowTable" .u32 LO :=
  Lib.tabIs_of_head (rest := [("orchard/sum.highTable", Rows.laid_orchard_sum_highTable)]) gLo gLoType Tryd.underlying165 Tryd.underlying158 cellsSum cellsTab h
theorem table_hi {W : World} (h : laidMetH Tryd.prog Rows.headFaultsRow.laid W) : Lib.TabIs Tryd.prog W "orchard/sum.highTable" .u32 HI :=
  Lib.tabIs_of_head (rest := []) gHi gHiType Tryd.underlying165 Tryd.underlying158 cellsSum cellsTab (laidMet.tail (show laidMet Tryd.prog [("orchard/sum.lowTable", Rows.laid_orchard_sum_lowTable), ("orchard/sum.highTable", Rows.laid_orchard_sum_highTable)] W from h))
theorem tabs_of {W : World} (h : laidMetH Tryd.prog Rows.headFaultsRow.laid W) : Tabs W := by
  have c0 := fun (j : Nat) (hj : j < 16) => (table_hi h).cell gHi j hj
  have c1 := fun (j : Nat) (hj : j < 16) => (table_lo h).cell gLo j hj
  refine ⟨⟨World.block_lt_of_cell? W _ (c0 0 (by decide)), World.block_lt_of_cell? W _ (c1 0 (by decide))⟩, fun j hj => ?_, fun j hj => ?_⟩
  · rw [c0 j hj, hi_cast j]
  · rw [c1 j hj, lo_cast j]

theorem contract (H : Type) (enc : TypeId × Value → H) (W : World) (base : Nat) (args : Array Value) (ds gs : List (DataW H)) (before : List MemPlace)
    (hval : ∀ (j : Nat) t v, Tryd.f5.params[j]? = some t → args[j]? = some v → Value.okWide Tryd.prog W .any base t v)
    (hW : DataW.Whole enc Tryd.prog Tryd.f5.params.toList Rows.headFaultsSpec.vars false W args.toList ds gs before) (hL : laidMetH Tryd.prog Rows.headFaultsRow.laid W) :
    Calls Tryd.prog 5 args W fun e W' => ∃ v, e = .returned v ∧ Rows.headFaultsSpec.post enc Tryd.prog Tryd.f5 false true false false W args v W' := by
  have hT := tabs_of hL
  have hW' := hW
  obtain ⟨p, q, hA0, hV, rfl, hfz, hnd⟩ := hW
  have hA : DataW.TrodAll enc Tryd.prog W 0 (fun _ => true) true Tryd.f5.params.toList args.toList ds p := hA0
  rw [Tryd.params5] at hA hval
  obtain ⟨v0, vs0, d0, ds0, p0, q0, hargs, rfl, rfl, h0, r0⟩ := trodAll_cons hA
  obtain ⟨v1, vs1, d1, ds1, p1, q1, rfl, rfl, rfl, h1, r1⟩ := trodAll_cons r0
  obtain ⟨v2, vs2, d2, ds2, p2, q2, rfl, rfl, rfl, h2, r2⟩ := trodAll_cons r1
  obtain ⟨v3, vs3, d3, ds3, p3, q3, rfl, rfl, rfl, h3, r3⟩ := trodAll_cons r2
  obtain ⟨v4, vs4, d4, ds4, p4, q4, rfl, rfl, rfl, h4, r4⟩ := trodAll_cons r3
  obtain ⟨rfl, rfl, rfl⟩ := trodAll_nil r4
  obtain rfl : args = #[v0, v1, v2, v3, v4] := by cases args; simp_all
  obtain ⟨rfl, rfl⟩ := trodVars_none hV
  have k0 := h0
  have lt0 : ∀ x ∈ p0, x.block < W.heap.size := by obtain ⟨m, hm⟩ := k0; exact DataW.trod_lt m _ _ _ hm
  obtain ⟨z0, w0⟩ := hd_of (hval 0 23 v0 rfl rfl) h0
  obtain ⟨a1, rfl, rfl, rfl, w1⟩ := open_int Tryd.underlying3 (hval 1 3 v1 rfl rfl) h1
  obtain ⟨a2, rfl, rfl, rfl, w2⟩ := open_int Tryd.underlying3 (hval 2 3 v2 rfl rfl) h2
  obtain ⟨a3, rfl, rfl, rfl, w3⟩ := open_int Tryd.underlying5 (hval 3 5 v3 rfl rfl) h3
  obtain ⟨a4, rfl, rfl, rfl⟩ := open_bool Tryd.underlying4 (hval 4 4 v4 rfl rfl) h4
  clear hA0
  refine (walk v0 z0 a1 a2 a3 a4 W w0 w1 w2 w3 hT).mono fun e W' ⟨he, bel⟩ => ?_
  subst he
  exact ⟨_, rfl, _, _, _, [], _, [], hW', trodAll_mk1 (shut_bool Tryd.underlying4 _), (trodAll_cons_mk (Below.trod laidOut (by kernel_rfl) (of_decide_eq_true (by kernel_rfl)) k0 bel lt0) (trodAll_cons_mk (shut_int Tryd.underlying3 w1) (trodAll_cons_mk (shut_int Tryd.underlying3 w2) (trodAll_cons_mk (shut_int Tryd.underlying5 w3) (trodAll_cons_mk (shut_bool Tryd.underlying4 a4) trodAll_mk0))))), rfl, bel.frame _, fun h => by cases h⟩

def setTab (l : List Int) : Obj → Obj
  | .cells _ t frozen => .cells (l.map (Value.int .u32)).toArray t frozen
  | o => o
noncomputable def laidWorld (os : Os) : World :=
  { World.holding Tryd.prog os ⟨#[], #[], []⟩ with heap := ((World.holding Tryd.prog os ⟨#[], #[], []⟩).heap.modify 1 (setTab LO)).modify 0 (setTab HI) }
theorem laid_met (os : Os) : laidMet Tryd.prog Rows.headFaultsRow.laid ((laidWorld os).forCall (fun _ _ => 0) ⟨#[], #[.agg #[.int .i64 0, .int .i64 0, .int .i64 0, .int .i64 0], .int .i64 0, .int .i64 0, .int .u8 0, .bool false], []⟩).memory :=
  laidMet_of_run' 8 (by kernel_rfl) (by kernel_rfl)
theorem reads (os : Os) {H : Type} (enc : TypeId × Value → H) : ∃ places, DataW.whole enc Tryd.prog ((laidWorld os).forCall (fun _ _ => 0) ⟨#[], #[.agg #[.int .i64 0, .int .i64 0, .int .i64 0, .int .i64 0], .int .i64 0, .int .i64 0, .int .u8 0, .bool false], []⟩).memory Tryd.f5.params.toList Rows.headFaultsSpec.vars false #[Value.agg #[.int .i64 0, .int .i64 0, .int .i64 0, .int .i64 0], Value.int .i64 0, Value.int .i64 0, Value.int .u8 0, Value.bool false].toList 8 = some ([.agg [.lit (.int .i64 0), .lit (.int .i64 0), .lit (.int .i64 0), .lit (.int .i64 0)], .lit (.int .i64 0), .lit (.int .i64 0), .lit (.int .u8 0), .lit (.bool false)], [], places) :=
  ⟨[], by kernel_rfl⟩

set_option maxRecDepth 100000 in
theorem lifted (os : Os) (started : os.Started) (H : Type) (enc : TypeId × Value → H) (F : Stop.Interp) :
    ReturnsInHanded {} Tryd.checked os 5 .any ((OpenSpec.ofChange Rows.headFaultsSpec).preRow enc Tryd.prog Tryd.f5 Rows.headFaultsRow.domain false Rows.headFaultsRow.laid) (((OpenSpec.ofChange Rows.headFaultsSpec).at F).post enc Tryd.prog Tryd.f5 false true false false) := by
  obtain ⟨places, hx⟩ := reads os enc
  refine returnsInHanded_of_row (C := Tryd.checked) (s := OpenSpec.ofChange Rows.headFaultsSpec) own started (by kernel_rfl) Tryd.func5
    (witness_row_at (enc := enc) (C := Tryd.checked) false (laidWorld os) #[.agg #[.int .i64 0, .int .i64 0, .int .i64 0, .int .i64 0], .int .i64 0, .int .i64 0, .int .u8 0, .bool false] rfl (by kernel_rfl) (by kernel_rfl) (by kernel_rfl)
      (OpenSpec.preRow_of_cond 8 hx (by kernel_rfl) (fun k hk => by cases hk) (by kernel_rfl) (laid_met os))) ?_
  intro W base args ds gs before hval hW _ _ _ hL _ _
  exact contract H enc W base args ds gs before hval hW hL

theorem said : Rows.HeadFaultsSaid :=
  OpenClaim.holds_of_cond 5 Tryd.f5 rfl rfl rfl rfl rfl rfl rfl ⟨rfl, rfl, rfl, rfl, rfl⟩ rfl rfl rfl rfl rfl (by kernel_rfl) Tryd.func5 (by kernel_rfl)
    (of_decide_eq_true (by kernel_rfl)) (by unfold Func.isWrapper; first | (rw [if_pos (by decide +kernel)]; kernel_rfl) | (rw [if_neg (by decide +kernel)]; exact ⟨rfl, rfl⟩))
    (fun os started H enc _ F => by rw [OpenClaim.pre_eq_preRow]; exact lifted os started H enc F)

theorem plain (f : FuncId) (fn : Func) (hf : Tryd.pinned.checked.prog.funcNamed "orchard/orchardlaw05.HeadFaults" = some f) (hfn : Tryd.pinned.checked.prog.funcs[f]? = some fn) :
    false = Tryd.pinned.checked.prog.looks [] ∧ ∀ (j : Nat) t, fn.params[j]? = some t → Tryd.pinned.checked.prog.wantsStandIn t = false := by
  obtain rfl : f = 5 := Option.some.inj ((show Tryd.prog.funcNamed "orchard/orchardlaw05.HeadFaults" = some 5 by kernel_rfl).symm.trans hf) |>.symm
  obtain rfl : fn = Tryd.f5 := (Option.some.inj (Tryd.func5.symm.trans hfn)).symm
  refine ⟨by kernel_rfl, fun j t ht => ?_⟩
  rw [Tryd.params5] at ht
  have hm := Array.mem_of_getElem? ht
  simp at hm
  rcases hm with rfl | rfl | rfl | rfl
  · exact (show Tryd.prog.wantsStandIn 23 = false by kernel_rfl)
  · exact (show Tryd.prog.wantsStandIn 3 = false by kernel_rfl)
  · exact (show Tryd.prog.wantsStandIn 5 = false by kernel_rfl)
  · exact (show Tryd.prog.wantsStandIn 4 = false by kernel_rfl)

theorem card : Rows.HeadFaultsCardSaid :=
  Claim7.holds_tied_plain_at .later [] _ _ _ _ said (fun _ h => by cases h) (by kernel_rfl) (fun _ h => by cases h) headFaults_row_tie rfl ⟨rfl, rfl⟩ (by kernel_rfl) rfl plain (by kernel_rfl)
end Go.Proofs.YtpjbkeheemhlnaaDoor.headFaults
