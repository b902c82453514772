/- HeadCopies: behind one to eight puts of a head both copies stand as blocks of Kind 1 with the number of times, the Term, and the numbers Vote, First and Base; a store that is nil answers the zero head, and ErrArg; no condition on the input (the two tables start as the program text lays them). -/
import Derived.Test.YtpjbkeheemhlnaaDoorHeadEq
import Derived.Test.YtpjbkeheemhlnaaDoorInvar3
import Derived.Test.YtpjbkeheemhlnaaDoorCards
import Derived.Test.YtpjbkeheemhlnaaDoorTie
import Derived.ProofKit
import Derived.OpenShut
import Derived.ShutString
import Derived.ChangeOld
import Derived.Deep.DeepHandedRow
import Derived.Lib.LaidTab
import Derived.Stop.LaidErr
namespace Go.Proofs.YtpjbkeheemhlnaaDoor.headCopies
open Go.ChangeShapes Go.WideShapes Go.ChangeAt Go.RowKit
open Go.ChangeMaps (open_string shut_string)
set_option linter.unusedVariables false
set_option maxRecDepth 100000
set_option maxHeartbeats 4000000 in
theorem hput_nil (h : Hd) (f : Int) (w : World) : Calls Tryd.prog 50 #[.pointer none, headV h, .int .i64 f] w fun e w' => e = .returned (.int .i64 1) ∧ Below w.heap.size w w' := by
  have n0 := HdB.new w h
  have b0 := (Below.refl _ w).alloc (Nat.le_refl _) (.cells #[.int .i64 h.term, .int .i64 h.vote, .int .i64 h.first, .int .i64 h.base] 23)
  obtain ⟨⟨c0, c1, c2, c3⟩, _⟩ := n0.cells
  unfold headV
  go_enter Tryd.func50, Tryd.ntmps50
  go_wp2_with fail
  go_ret
  exact ⟨rfl, b0⟩
set_option maxHeartbeats 4000000 in
theorem hPut_nil (h : Hd) (w : World) : Calls Tryd.prog 19 #[.pointer none, headV h] w fun e w' => e = .returned (.int .i64 1) ∧ Below w.heap.size w w' := by
  have n0 := HdB.new w h
  have b0 := (Below.refl _ w).alloc (Nat.le_refl _) (.cells #[.int .i64 h.term, .int .i64 h.vote, .int .i64 h.first, .int .i64 h.base] 23)
  have HP := Lib.hid (fun (W : World) => hput_nil h 0 W)
  obtain ⟨⟨c0, c1, c2, c3⟩, _⟩ := n0.cells
  unfold headV at *
  go_enter Tryd.func19, Tryd.ntmps19
  go_wp2_with fail
  refine (HP.out _).mono ?_
  rintro e w1 ⟨rfl, hb⟩
  go_wp2_with fail
  go_ret
  exact ⟨rfl, b0.trans (hb.mono b0.size)⟩
set_option maxHeartbeats 4000000 in
theorem hscrub_nil (w : World) : Calls Tryd.prog 22 #[.pointer none] w fun e w' => e = .returned (.int .i64 1) ∧ Below w.heap.size w w' := by
  go_enter Tryd.func22, Tryd.ntmps22
  go_wp2_with fail
  go_ret
  exact ⟨rfl, Below.refl _ _⟩
/-- What stands on the device, and in the store, behind so many puts of one head. -/
def Dk (h : Hd) (k : Nat) : Dv := if k = 0 then P2 blk0 blk0 2 else P2 (good (copyR h k)) (good (copyR h k)) 2
def Lk (h : Hd) (k : Nat) : Rc := if k = 0 then rc0 else copyR h k
theorem Lk_index (h : Hd) (k : Nat) : (Lk h k).index = k := by
  unfold Lk
  split
  · next e => rw [e]; rfl
  · rfl
theorem Dk_writes (h : Hd) (k : Nat) : (Dk h k).writes = 0 := by unfold Dk; split <;> rfl
theorem Dk_two {h : Hd} (ho : h.Ok) (k : Nat) (hk : k ≤ 100) : (Dk h k).two 0 (copyR h ((Lk h k).index + 1)) = (0, Dk h (k + 1)) := by
  rw [Lk_index, show (k : Int) + 1 = ((k + 1 : Nat) : Int) by omega]
  have hr : (copyR h ((k + 1 : Nat) : Int)).Ok := copy_ok ho (by omega)
  unfold Dk
  rw [if_neg (show ¬ k + 1 = 0 by omega)]
  split
  · exact Dx_two0 hr
  · exact Dx_two0 hr
theorem Dk_read {h : Hd} (ho : h.Ok) (M : Nat) (h0 : 1 ≤ M) (hk : M ≤ 100) (b : Nat) (hb : b < 2) : (Dk h M).sread (b : Int) = (copyR h (M : Int), 1, 0) := by
  obtain ⟨k, rfl⟩ : ∃ k, M = k + 1 := ⟨M - 1, by omega⟩
  have hr : (copyR h ((k + 1 : Nat) : Int)).Ok := copy_ok ho (by omega)
  unfold Dk
  rw [if_neg (show ¬ k + 1 = 0 by omega)]
  obtain rfl | rfl : b = 0 ∨ b = 1 := by omega
  · refine Dx_read0.trans ?_
    rw [rd_good hr]
  · refine Dx_read1.trans ?_
    rw [rd_good hr]
theorem nums_hd (h : Hd) (i : Int) : ByteArray.mk (numsE [h.vote, h.first, h.base]).toArray = (copyR h i).data := rfl

theorem run_hdf (W : World) (b i : Nat) (hi : i < 4) : (Instr.fieldAt 23 (.pointer (some ⟨b, 0, none⟩)) i).run Tryd.prog W = .ok (.pointer (some ⟨b, i, none⟩)) W := by
  match i, hi with
  | 0, _ => go_simp
  | 1, _ => go_simp
  | 2, _ => go_simp
  | 3, _ => go_simp
theorem run_loadR (W : World) (b : Nat) (r : Rc) (hb : RecB W b r) : (Instr.loadAt 38 (.pointer (some ⟨b, 0, none⟩))).run Tryd.prog W = .ok (recV r) W := by
  obtain ⟨⟨c0, c1, c2, c3⟩, _⟩ := hb.cells
  unfold recV
  go_simp
theorem run_neE (W : World) (z : Int) (s1 s2 : Operand) : (do eqGuard .neq 29 s1 s2 (.int .i64 z) (.int .i64 z); binOp .neq 29 (.int .i64 z) (.int .i64 z) : Sem Value).run Tryd.prog W = .ok (.bool false) W := by
  go_simp
theorem run_neS (W : World) (z : Int) (s1 s2 : Operand) : (do eqGuard .neq 39 s1 s2 (.int .i64 z) (.int .i64 z); binOp .neq 39 (.int .i64 z) (.int .i64 z) : Sem Value).run Tryd.prog W = .ok (.bool false) W := by
  go_simp
theorem run_neR (W : World) (r : Rc) (s1 s2 : Operand) : (do eqGuard .neq 38 s1 s2 (recV r) (recV r); binOp .neq 38 (recV r) (recV r) : Sem Value).run Tryd.prog W = .ok (.bool false) W := by
  unfold recV
  go_simp
theorem call_num (W : World) (u v : Value) : (callFunc 24 #[u, v]).run Tryd.prog W = .ok (.enter 24 #[u, v]) W := by go_simp
theorem run_three (W : World) (a b c : Int) : (Instr.buildSlice 87 3 #[(0, .int .i64 a), (1, .int .i64 b), (2, .int .i64 c)]).run Tryd.prog W = .ok (.slice (some ⟨W.heap.size, 0, none⟩) 3 3) (W.alloc (.cells #[.int .i64 a, .int .i64 b, .int .i64 c] 3)) := by go_simp
theorem run_rec4 (W : World) (a b c : Int) (s : ByteArray) : (Instr.build 38 #[(0, .int .i64 a), (1, .int .i64 b), (2, .int .i64 c), (3, .string s)]).run Tryd.prog W = .ok (.agg #[.int .i64 a, .int .i64 b, .int .i64 c, .string s]) W := by go_simp
section
variable {P : Program} {Q : Exit → Act → World → Prop} {l : List Oper}
theorem gstep_slice3 {i : Nat} {o : Oper} {a : Act} {w : World} {K : Act → World → Prop} (ho : l[i]? = some o) (hw : WantedIs l a o true) (t : TypeId) (s1 s2 s3 : Operand) (hop : o.op = .buildSlice t 3 #[(0, s1), (1, s2), (2, s3)]) (v1 v2 v3 : Value) (he1 : a.eval s1 = v1) (he2 : a.eval s2 = v2) (he3 : a.eval s3 = v3) (v' : Value) (w' : World)
    (hr : (Instr.buildSlice t 3 #[(0, v1), (1, v2), (2, v3)]).run P w = .ok v' w') (h : K (a.put o.dst v') w') : Step P l Q i K a w :=
  gstep_value ho hw v' w' (by simp only [execOp, hop, List.map_toArray, List.map_cons, List.map_nil, he1, he2, he3, Sem.run_bind, Sem.run_pure, hr, Result.andThen_ok]) h
theorem gstep_convert {i : Nat} {o : Oper} {a : Act} {w : World} {K : Act → World → Prop} (ho : l[i]? = some o) (hw : WantedIs l a o true) (t u : TypeId) (s : Operand) (hop : o.op = .convert t u s) (v : Value) (he : a.eval s = v) (v' : Value)
    (hr : (convert t u v).run P w = .ok v' w) (h : K (a.put o.dst v') w) : Step P l Q i K a w :=
  gstep_value ho hw v' w (by simp only [execOp, hop, he, Sem.run_bind, Sem.run_pure, hr, Result.andThen_ok]) h
theorem gstep_build4 {i : Nat} {o : Oper} {a : Act} {w : World} {K : Act → World → Prop} (ho : l[i]? = some o) (hw : WantedIs l a o true) (t : TypeId) (s0 s1 s2 s3 : Operand) (hop : o.op = .build t #[(0, s0), (1, s1), (2, s2), (3, s3)]) (v0 v1 v2 v3 : Value) (he0 : a.eval s0 = v0) (he1 : a.eval s1 = v1) (he2 : a.eval s2 = v2) (he3 : a.eval s3 = v3) (v' : Value)
    (hr : (Instr.build t #[(0, v0), (1, v1), (2, v2), (3, v3)]).run P w = .ok v' w) (h : K (a.put o.dst v') w) : Step P l Q i K a w :=
  gstep_value ho hw v' w (by simp only [execOp, hop, List.map_toArray, List.map_cons, List.map_nil, he0, he1, he2, he3, Sem.run_bind, Sem.run_pure, hr, Result.andThen_ok]) h
end
def FC (n g : Nat) (k : Int) (h : Hd) (s : ByteArray) : Nat → Value → World → Prop
  | 0, v, _ => v = .int .i64 0
  | 1, v, _ => v = .bool false
  | 2, v, _ => v = .bool false
  | 3, v, _ => v = .int .i64 1
  | 4, v, _ => v = .bool false
  | 5, v, _ => v = .bool false
  | 6, v, _ => v = .bool false
  | 7, v, _ => v = recV ⟨1, k, h.term, s⟩
  | 8, v, _ => v = .int .i64 k
  | 9, v, _ => v = .pointer (some ⟨n, 0, none⟩)
  | 10, v, _ => v = .int .i64 h.term
  | 11, v, _ => v = .pointer (some ⟨n, 1, none⟩)
  | 12, v, _ => v = .int .i64 h.vote
  | 13, v, _ => v = .pointer (some ⟨n, 2, none⟩)
  | 14, v, _ => v = .int .i64 h.first
  | 15, v, _ => v = .pointer (some ⟨n, 3, none⟩)
  | 16, v, _ => v = .int .i64 h.base
  | 17, v, w => ∃ g' : Nat, v = .slice (some ⟨g', 0, none⟩) 3 3 ∧ w.heap[g']? = some (.cells #[.int .i64 h.vote, .int .i64 h.first, .int .i64 h.base] 3 (0, 0))
  | 18, v, w => Src w v (numsE [h.vote, h.first, h.base])
  | 19, v, _ => v = .string s
  | 20, v, _ => v = recV ⟨1, k, h.term, s⟩
  | 21, v, _ => v = .bool false
  | 22, v, _ => v = .bool false
  | _, _, _ => True
theorem FC_keep {n g : Nat} {k : Int} {h : Hd} {s : ByteArray} {v : Value} {w w' : World} (hb : Below w.heap.size w w') : ∀ i : Nat, FC n g k h s i v w → FC n g k h s i v w'
  | 0, h => h
  | 1, h => h
  | 2, h => h
  | 3, h => h
  | 4, h => h
  | 5, h => h
  | 6, h => h
  | 7, h => h
  | 8, h => h
  | 9, h => h
  | 10, h => h
  | 11, h => h
  | 12, h => h
  | 13, h => h
  | 14, h => h
  | 15, h => h
  | 16, h => h
  | 17, h => ⟨h.choose, h.choose_spec.1, (hb.block _ (lt_of_block h.choose_spec.2)).trans h.choose_spec.2⟩
  | 18, h => Src.below h hb
  | 19, h => h
  | 20, h => h
  | 21, h => h
  | 22, h => h
  | _ + 23, _ => trivial
set_option maxHeartbeats 4000000 in
theorem walk (v0 : Value) (h : Hd) (x1 : Int) (w : World) (w0 : v0 = headV h ∧ h.Fits) (w1 : (Lit.int .i64 x1).wf = true) (hT : Tabs w) :
    Calls Tryd.prog 4 #[v0, .int .i64 x1] w fun e w' => e = .returned (.bool true) ∧ Below w.heap.size w w' := by
  obtain ⟨rfl, fh⟩ := w0
  have n0 := HdB.new w h
  have b0 := (Below.refl _ w).alloc (Nat.le_refl _) (.cells #[.int .i64 h.term, .int .i64 h.vote, .int .i64 h.first, .int .i64 h.base] 23)
  have HB := Lib.hid (begin_any _ (hT.below b0))
  have HT := Lib.hid hT
  have HTb := Lib.hid (fun (W x : World) (h : Below w.heap.size w W) (k : Below w.heap.size W x) => hT.below (h.trans k))
  have hand := i64_and7
  obtain ⟨m, hmx⟩ := Int.eq_ofNat_of_zero_le (Int.emod_nonneg x1 (show (8 : Int) ≠ 0 by decide))
  have hm : m < 8 := by have := Int.emod_lt_of_pos x1 (show (0 : Int) < 8 by decide); omega
  obtain ⟨M, hM⟩ : ∃ M, M = m + 1 := ⟨_, rfl⟩
  have e1 : IntKind.i64.wrap (1 + (m : Int)) = (M : Int) := (IntWalk.i64_in _ (by omega)).trans (by omega)
  have hM1 : 1 ≤ M := by omega
  have hM2 : M ≤ 8 := by omega
  clear hM hm
  clear hT w1
  by_cases ho : h.Ok
  · have HR := Lib.hid (fun (W : World) => right_any h W true (by simpa using ho))
    have HO := Lib.hid ho
    have HN3 := Lib.hid (fun (g : Nat) (W : World) (hg : g < W.heap.size) => num_three h.vote h.first h.base g W hg fh.vote fh.first fh.base)
    have HNIL := Lib.hid (fun (W : World) => head_nil W)
    have HPN := Lib.hid (fun (W : World) => hPut_nil h W)
    have HSN := Lib.hid (fun (W : World) => hscrub_nil W)
    have HX := Lib.hid (nums_hd h (M : Int))
    clear ho fh
    unfold headV hd0 at *
    simp only at HNIL
    go_enter Tryd.func4, Tryd.ntmps4
    go_wp2_with fail
    refine HB.out.mono ?_
    rintro e w1 ⟨rfl, hb⟩
    have N1 := n0.below hb
    have B1 := b0.trans (hb.mono b0.size)
    obtain ⟨⟨c0, c1, c2, c3⟩, _⟩ := N1.cells
    clear hb n0 b0 HB
    go_wp2_with fail
    refine (HR.out _).mono ?_
    rintro e w2 ⟨rfl, hb⟩
    have N2 := N1.below hb
    have B2 := B1.trans (hb.mono B1.size)
    clear hb N1 c0 c1 c2 c3 B1
    go_wp2_with fail
    refine (new_any 4 w2).mono ?_
    rintro e w3 ⟨B, rfl, hd, hb⟩
    rw [show Dv.new 4 = P2 blk0 blk0 2 from P2_new 2 (by decide)] at hd
    have X3 : DevW w.heap.size (fun j => j = w.heap.size) w3 B (P2 blk0 blk0 2) := devw_new hd B2.size (fun j hj => by rw [hj]; exact N2.lt) hb.size
    have N3 := N2.below hb
    have B3 := B2.trans (hb.mono B2.size)
    clear hd hb B2 N2
    go_wp2_with fail
    refine (hw_open rc0 X3 (HT.out.below B3) (Nat.zero_le _) B3.size (P2_fresh 2)).mono ?_
    rintro e w4 ⟨sb, rfl, S4, hsb, X4, hb⟩
    have hnb := Nat.le_trans B3.size hsb
    have hne : w.heap.size ≠ sb := Nat.ne_of_lt (Nat.lt_of_lt_of_le N3.lt hsb)
    have N4 := N3.below hb
    have B4 := B3.trans (hb.mono B3.size)
    clear hb X3 hsb N3 B3
    go_wp2_with fail
    go_loopw [8] (fun i wr => ∃ k : Nat, k ≤ M ∧ i = .int .i64 k ∧ DevW w.heap.size (fun j => j = w.heap.size ∨ j = sb) wr B (Dk h k) ∧ StB wr sb B (Lk h k) ∧ HdB wr w.heap.size h ∧ Below w.heap.size w wr) (fun i _ => M - (intOf i).toNat)
    case atStart => exact ⟨0, by omega, rfl, X4, S4, N4, B4⟩
    case round =>
      obtain ⟨k, hk, rfl, Xk, Sk, Nk, Bk⟩ := hrel
      clear X4 S4 N4 B4
      obtain ⟨⟨c0, c1, c2, c3⟩, _⟩ := Nk.cells
      by_cases hlt : k < M
      · have hlt' : (k : Int) < (M : Int) := by omega
        have HD := Lib.hid (Dk_two HO.out k (by omega))
        have HDW := Lib.hid (Dk_writes h k)
        have HLI := Lib.hid (show -1 ≤ (Lk h k).index ∧ (Lk h k).index ≤ 281474976710654 by rw [Lk_index]; omega)
        have HLZ : Hid (copyR h ((Lk h k).index + 1) = Lk h (k + 1)) := by
          show copyR h ((Lk h k).index + 1) = Lk h (k + 1)
          rw [Lk_index]
          unfold Lk
          rw [if_neg (show ¬ k + 1 = 0 by omega)]
          rfl
        go_wp2_with fail
        refine (hw_put sb (Lk h k) h 0 _ Xk Sk (.inr rfl) Bk.size hnb (fun x k => HTb.out _ x Bk k) (by rw [HDW.out]; exact Nat.zero_le _) HO.out HLI.out HD.out).mono ?_
        rintro e w5 ⟨rfl, X5, hb, S5, hkk⟩
        rw [lastL_zero rfl, HLZ.out] at S5
        have N5 := Nk.keep hkk ⟨.inl rfl, hne⟩
        have B5 := Bk.trans hb
        clear hb hkk Xk Sk Nk Bk c0 c1 c2 c3
        go_wp2_with fail
        go_roundw
        case rel => exact ⟨k + 1, by omega, by go_num, X5, S5, N5, B5⟩
        case measure => simp [intOf]; omega
      · obtain rfl : k = M := by omega
        have HDR := Lib.hid (fun (b : Nat) (hb : b < 2) => Dk_read HO.out k hM1 (by omega) b hb)
        have HDW := Lib.hid (Dk_writes h k)
        clear Sk c0 c1 c2 c3
        go_wp2_with fail
        go_loopw [9] (fun i wr => ∃ j : Nat, j ≤ 2 ∧ i = .int .i64 j ∧ DevW w.heap.size (fun j => j = w.heap.size ∨ j = sb) wr B (Dk h k) ∧ HdB wr w.heap.size h ∧ Below w.heap.size w wr) (fun i _ => 2 - (intOf i).toNat)
        case atStart => exact ⟨0, by omega, rfl, Xk, Nk, Bk⟩
        case round =>
          obtain ⟨j, hj, rfl, Xj, Nj, Bj⟩ := hrel
          clear Xk Nk Bk
          by_cases hjt : j < 2
          · have hjt' : (j : Int) < 2 := by omega
            have HSR := Lib.hid (devw_sread (j : Int) (HT.out.below Bj) (by rw [HDW.out]; exact Nat.zero_le _) Xj)
            rw [HDR.out j hjt] at HSR
            obtain ⟨R, hR⟩ : ∃ R, R = copyR h (k : Int) := ⟨_, rfl⟩
            rw [← hR] at HSR HX
            obtain ⟨q0, q1, q2, q3⟩ := R
            obtain ⟨rfl, rfl, rfl, hq3⟩ := Rc.mk.inj hR
            clear hR hq3
            unfold sreadV recV at HSR
            simp only at HSR
            go_wp2_with fail
            refine HSR.out.mono ?_
            rintro e w6 ⟨rfl, hb⟩
            have b7 := (Below.refl w6.heap.size w6).alloc (Nat.le_refl _) (.cells #[.int .i64 1, .int .i64 (k : Int), .int .i64 h.term, .string q3] 38)
            have R7 := RecB.new w6 ⟨1, (k : Int), h.term, q3⟩
            have N7 := (Nj.below hb).below b7
            have X7 := (Xj.below hb).below b7
            have B7 := (Bj.trans (hb.mono Bj.size)).trans (b7.mono (Bj.trans (hb.mono Bj.size)).size)
            clear hb b7 HSR Xj Nj Bj
            have heq := eq_recn ⟨1, (k : Int), h.term, q3⟩
            simp only at heq
            go_wp2_with fail
            obtain ⟨w7, hw7⟩ : ∃ w7, w7 = w6.alloc (.cells #[.int .i64 1, .int .i64 (k : Int), .int .i64 h.term, .string q3] 38) := ⟨_, rfl⟩
            rw [← hw7] at R7 N7 X7 B7
            rw [← hw7]
            clear hw7
            have HWH := Lib.hid (fun (W : World) (hb : Below w7.drew.heap.size w7.drew W) => show HdB W w.heap.size h from HdB.below (w := w7.drew) N7 hb)
            have HWR := Lib.hid (fun (W : World) (hb : Below w7.drew.heap.size w7.drew W) => show RecB W w6.heap.size ⟨1, (k : Int), h.term, q3⟩ from RecB.below (w := w7.drew) R7 hb)
            refine wp_region_steps (FC w.heap.size w6.heap.size k h q3) (fun w w' => Below w.heap.size w w') (by kernel_rfl) (by kernel_rfl) (by kernel_rfl) (Below.refl _ _) ?_ (fun u v w h1 h2 => h1.trans (h2.mono h1.size)) ?_ ?_
            · intro i v w w' _ h1 h2
              exact FC_keep h2 i h1
            · intro i o ho x w1 hR hF
              match i, ho with
              | 0, ho =>
                obtain rfl := Option.some.inj ho
                exact gstep_move rfl (wanted0 rfl) _ rfl _ (eval_of 12 _ (by kernel_rfl) rfl) ⟨_, rfl, rfl, Below.refl _ _⟩
              | 1, ho =>
                obtain rfl := Option.some.inj ho
                exact gstep_bin rfl (wanted0 rfl) _ _ _ _ _ rfl _ _ (eval_at 52 0 _ (by kernel_rfl) (show 52 < 90 by decide) (hF 0 (by kernel_rfl))) rfl _ (run_neE w1 0 _ _) ⟨_, rfl, rfl, Below.refl _ _⟩
              | 2, ho =>
                obtain rfl := Option.some.inj ho
                exact gstep_move rfl (wanted0 rfl) _ rfl _ (eval_at 53 1 _ (by kernel_rfl) (show 53 < 90 by decide) (hF 1 (by kernel_rfl))) ⟨_, rfl, rfl, Below.refl _ _⟩
              | 3, ho =>
                obtain rfl := Option.some.inj ho
                exact gstep_move rfl (wanted_at 54 2 false _ true rfl (by kernel_rfl) (show 54 < 90 by decide) (hF 2 (by kernel_rfl)) rfl) _ rfl _ (eval_of 11 _ (by kernel_rfl) rfl) ⟨_, rfl, rfl, Below.refl _ _⟩
              | 4, ho =>
                obtain rfl := Option.some.inj ho
                exact gstep_bin rfl (wanted_at 54 2 false _ true rfl (by kernel_rfl) (show 54 < 90 by decide) (hF 2 (by kernel_rfl)) rfl) _ _ _ _ _ rfl _ _ (eval_at 55 3 _ (by kernel_rfl) (show 55 < 90 by decide) (hF 3 (by kernel_rfl))) rfl _ (run_neS w1 1 _ _) ⟨_, rfl, rfl, Below.refl _ _⟩
              | 5, ho =>
                obtain rfl := Option.some.inj ho
                exact gstep_pick rfl (wanted0 rfl) _ _ _ rfl false (eval_at 54 2 _ (by kernel_rfl) (show 54 < 90 by decide) (hF 2 (by kernel_rfl))) _ (by rw [if_neg (by decide)]; exact (eval_at 56 4 _ (by kernel_rfl) (show 56 < 90 by decide) (hF 4 (by kernel_rfl)))) ⟨_, rfl, rfl, Below.refl _ _⟩
              | 6, ho =>
                obtain rfl := Option.some.inj ho
                exact gstep_move rfl (wanted0 rfl) _ rfl _ (eval_at 57 5 _ (by kernel_rfl) (show 57 < 90 by decide) (hF 5 (by kernel_rfl))) ⟨_, rfl, rfl, Below.refl _ _⟩
              | 7, ho =>
                obtain rfl := Option.some.inj ho
                exact gstep_load rfl (wanted_at 58 6 false _ true rfl (by kernel_rfl) (show 58 < 90 by decide) (hF 6 (by kernel_rfl)) rfl) _ _ rfl _ (eval_of 10 _ (by kernel_rfl) rfl) _ (run_loadR w1 _ _ (HWR.out w1 hR)) ⟨_, rfl, rfl, Below.refl _ _⟩
              | 8, ho =>
                obtain rfl := Option.some.inj ho
                exact gstep_move rfl (wanted_at 58 6 false _ true rfl (by kernel_rfl) (show 58 < 90 by decide) (hF 6 (by kernel_rfl)) rfl) _ rfl _ (eval_of 1 _ (by kernel_rfl) rfl) ⟨_, rfl, rfl, Below.refl _ _⟩
              | 9, ho =>
                obtain rfl := Option.some.inj ho
                exact gstep_field rfl (wanted_at 58 6 false _ true rfl (by kernel_rfl) (show 58 < 90 by decide) (hF 6 (by kernel_rfl)) rfl) _ _ _ rfl _ (eval_of 2 _ (by kernel_rfl) rfl) _ (run_hdf w1 _ 0 (by decide)) ⟨_, rfl, rfl, Below.refl _ _⟩
              | 10, ho =>
                obtain rfl := Option.some.inj ho
                exact gstep_load rfl (wanted_at 58 6 false _ true rfl (by kernel_rfl) (show 58 < 90 by decide) (hF 6 (by kernel_rfl)) rfl) _ _ rfl _ (eval_at 61 9 _ (by kernel_rfl) (show 61 < 90 by decide) (hF 9 (by kernel_rfl))) _ (run_loadI w1 _ _ (HWH.out w1 hR).cells.1.1) ⟨_, rfl, rfl, Below.refl _ _⟩
              | 11, ho =>
                obtain rfl := Option.some.inj ho
                exact gstep_field rfl (wanted_at 58 6 false _ true rfl (by kernel_rfl) (show 58 < 90 by decide) (hF 6 (by kernel_rfl)) rfl) _ _ _ rfl _ (eval_of 2 _ (by kernel_rfl) rfl) _ (run_hdf w1 _ 1 (by decide)) ⟨_, rfl, rfl, Below.refl _ _⟩
              | 12, ho =>
                obtain rfl := Option.some.inj ho
                exact gstep_load rfl (wanted_at 58 6 false _ true rfl (by kernel_rfl) (show 58 < 90 by decide) (hF 6 (by kernel_rfl)) rfl) _ _ rfl _ (eval_at 63 11 _ (by kernel_rfl) (show 63 < 90 by decide) (hF 11 (by kernel_rfl))) _ (run_loadI w1 _ _ (HWH.out w1 hR).cells.1.2.1) ⟨_, rfl, rfl, Below.refl _ _⟩
              | 13, ho =>
                obtain rfl := Option.some.inj ho
                exact gstep_field rfl (wanted_at 58 6 false _ true rfl (by kernel_rfl) (show 58 < 90 by decide) (hF 6 (by kernel_rfl)) rfl) _ _ _ rfl _ (eval_of 2 _ (by kernel_rfl) rfl) _ (run_hdf w1 _ 2 (by decide)) ⟨_, rfl, rfl, Below.refl _ _⟩
              | 14, ho =>
                obtain rfl := Option.some.inj ho
                exact gstep_load rfl (wanted_at 58 6 false _ true rfl (by kernel_rfl) (show 58 < 90 by decide) (hF 6 (by kernel_rfl)) rfl) _ _ rfl _ (eval_at 65 13 _ (by kernel_rfl) (show 65 < 90 by decide) (hF 13 (by kernel_rfl))) _ (run_loadI w1 _ _ (HWH.out w1 hR).cells.1.2.2.1) ⟨_, rfl, rfl, Below.refl _ _⟩
              | 15, ho =>
                obtain rfl := Option.some.inj ho
                exact gstep_field rfl (wanted_at 58 6 false _ true rfl (by kernel_rfl) (show 58 < 90 by decide) (hF 6 (by kernel_rfl)) rfl) _ _ _ rfl _ (eval_of 2 _ (by kernel_rfl) rfl) _ (run_hdf w1 _ 3 (by decide)) ⟨_, rfl, rfl, Below.refl _ _⟩
              | 16, ho =>
                obtain rfl := Option.some.inj ho
                exact gstep_load rfl (wanted_at 58 6 false _ true rfl (by kernel_rfl) (show 58 < 90 by decide) (hF 6 (by kernel_rfl)) rfl) _ _ rfl _ (eval_at 67 15 _ (by kernel_rfl) (show 67 < 90 by decide) (hF 15 (by kernel_rfl))) _ (run_loadI w1 _ _ (HWH.out w1 hR).cells.1.2.2.2) ⟨_, rfl, rfl, Below.refl _ _⟩
              | 17, ho =>
                obtain rfl := Option.some.inj ho
                exact gstep_slice3 rfl (wanted_at 58 6 false _ true rfl (by kernel_rfl) (show 58 < 90 by decide) (hF 6 (by kernel_rfl)) rfl) _ _ _ _ rfl _ _ _ (eval_at 64 12 _ (by kernel_rfl) (show 64 < 90 by decide) (hF 12 (by kernel_rfl))) (eval_at 66 14 _ (by kernel_rfl) (show 66 < 90 by decide) (hF 14 (by kernel_rfl))) (eval_at 68 16 _ (by kernel_rfl) (show 68 < 90 by decide) (hF 16 (by kernel_rfl))) _ _ (run_three w1 _ _ _) ⟨_, rfl, ⟨w1.heap.size, rfl, heap_alloc_new w1 _⟩, (Below.refl _ _).alloc (Nat.le_refl _) _⟩
              | 18, ho =>
                obtain rfl := Option.some.inj ho
                obtain ⟨g', hv', hg'⟩ := hF 17 (by kernel_rfl)
                refine gstep_call2 rfl (wanted_at 58 6 false _ true rfl (by kernel_rfl) (show 58 < 90 by decide) (hF 6 (by kernel_rfl)) rfl) _ _ _ _ rfl (.slice none 0 0) (x 17) rfl (eval_at 69 17 _ (by kernel_rfl) (show 69 < 90 by decide) rfl) (call_num w1 _ _) ?_
                rw [hv']
                refine (HN3.out g' w1 (lt_of_block hg') (cell_of hg' rfl) (cell_of hg' rfl) (cell_of hg' rfl)).mono ?_
                rintro e w9 ⟨v9, rfl, ho9, hb9⟩
                exact ⟨_, rfl, _, rfl, ho9.src, hb9⟩
              | 19, ho =>
                obtain rfl := Option.some.inj ho
                exact gstep_convert rfl (wanted_at 58 6 false _ true rfl (by kernel_rfl) (show 58 < 90 by decide) (hF 6 (by kernel_rfl)) rfl) _ _ _ rfl (x 18) (eval_at 70 18 _ (by kernel_rfl) (show 70 < 90 by decide) rfl) _ (by have hcv := run_str (hF 18 (by kernel_rfl)); rw [HX.out] at hcv; exact hcv) ⟨_, rfl, rfl, Below.refl _ _⟩
              | 20, ho =>
                obtain rfl := Option.some.inj ho
                exact gstep_build4 rfl (wanted_at 58 6 false _ true rfl (by kernel_rfl) (show 58 < 90 by decide) (hF 6 (by kernel_rfl)) rfl) _ _ _ _ _ rfl _ _ _ _ rfl (eval_at 60 8 _ (by kernel_rfl) (show 60 < 90 by decide) (hF 8 (by kernel_rfl))) (eval_at 62 10 _ (by kernel_rfl) (show 62 < 90 by decide) (hF 10 (by kernel_rfl))) (eval_at 71 19 _ (by kernel_rfl) (show 71 < 90 by decide) (hF 19 (by kernel_rfl))) _ (run_rec4 w1 _ _ _ _) ⟨_, rfl, rfl, Below.refl _ _⟩
              | 21, ho =>
                obtain rfl := Option.some.inj ho
                exact gstep_bin rfl (wanted_at 58 6 false _ true rfl (by kernel_rfl) (show 58 < 90 by decide) (hF 6 (by kernel_rfl)) rfl) _ _ _ _ _ rfl _ _ (eval_at 59 7 _ (by kernel_rfl) (show 59 < 90 by decide) (hF 7 (by kernel_rfl))) (eval_at 72 20 _ (by kernel_rfl) (show 72 < 90 by decide) (hF 20 (by kernel_rfl))) _ (run_neR w1 _ _ _) ⟨_, rfl, rfl, Below.refl _ _⟩
              | 22, ho =>
                obtain rfl := Option.some.inj ho
                exact gstep_pick rfl (wanted0 rfl) _ _ _ rfl false (eval_at 58 6 _ (by kernel_rfl) (show 58 < 90 by decide) (hF 6 (by kernel_rfl))) _ (by rw [if_neg (by decide)]; exact (eval_at 73 21 _ (by kernel_rfl) (show 73 < 90 by decide) (hF 21 (by kernel_rfl)))) ⟨_, rfl, rfl, Below.refl _ _⟩
              | n + 23, ho => simp at ho
            · intro x w9 hR hF
              have hl : x 22 = .bool false := hF 22 (by decide)
              have N9 := HWH.out w9 hR
              have X9 : DevW w.heap.size (fun j => j = w.heap.size ∨ j = sb) w9 B (Dk h k) := X7.drew.below hR
              have B9 : Below w.heap.size w w9 := B7.drew.trans (hR.mono B7.drew.size)
              dsimp only [Exit.then]
              rename_i K hK
              refine hK _ _ ?_
              simp only [putAll, hl, Act.put, List.setIfInBounds_toArray, List.set_cons_succ, List.set_cons_zero]
              clear hl hR hF
              go_wp2_with fail
              go_roundw
              case rel => exact ⟨j + 1, by omega, by go_num, X9, N9, B9⟩
              case measure => simp [intOf]; omega
          · obtain rfl : j = 2 := by omega
            obtain ⟨⟨c0, c1, c2, c3⟩, _⟩ := Nj.cells
            go_wp2_with fail
            refine (HNIL.out _).mono ?_
            rintro e w6 ⟨rfl, hb⟩
            have N6 := Nj.below hb
            have B6 := Bj.trans (hb.mono Bj.size)
            obtain ⟨⟨c0, c1, c2, c3⟩, _⟩ := N6.cells
            clear hb Nj Bj Xj
            go_wp2_with fail
            refine (HPN.out _).mono ?_
            rintro e w7 ⟨rfl, hb⟩
            have B7 := B6.trans (hb.mono B6.size)
            clear hb B6 N6
            go_wp2_with fail
            refine (HSN.out _).mono ?_
            rintro e w8 ⟨rfl, hb⟩
            have B8 := B7.trans (hb.mono B7.size)
            clear hb B7
            go_wp2_with fail
            go_ret
            exact ⟨rfl, B8⟩
  · have HR := Lib.hid (fun (W : World) => right_any h W false (by simpa using ho))
    clear ho fh
    unfold headV
    go_enter Tryd.func4, Tryd.ntmps4
    go_wp2_with fail
    refine HB.out.mono ?_
    rintro e w1 ⟨rfl, hb⟩
    have N1 := n0.below hb
    have B1 := b0.trans (hb.mono b0.size)
    obtain ⟨⟨c0, c1, c2, c3⟩, _⟩ := N1.cells
    clear hb n0 b0 HB
    go_wp2_with fail
    refine (HR.out _).mono ?_
    rintro e w2 ⟨rfl, hb⟩
    have B2 := B1.trans (hb.mono B1.size)
    go_wp2_with fail
    go_ret
    exact ⟨rfl, B2⟩

theorem own : ownKnob Tryd.prog.godebug = none := by kernel_rfl
theorem laidOut : laidOutB Tryd.prog = true := by kernel_rfl
theorem gHi : Tryd.prog.globalNamed "orchard/sum.highTable" = some 0 := by kernel_rfl
theorem gLo : Tryd.prog.globalNamed "orchard/sum.lowTable" = some 1 := by kernel_rfl
theorem gHiType : (Tryd.prog.globals[0]?).map (·.type) = some 165 := by kernel_rfl
theorem gLoType : (Tryd.prog.globals[1]?).map (·.type) = some 165 := by kernel_rfl
theorem cellsTab : Tryd.prog.cellsOf 165 = 16 := by kernel_rfl
theorem cellsSum : Tryd.prog.cellsOf 158 = 1 := by kernel_rfl

theorem table_lo {W : World} (h : laidMetH Tryd.prog Rows.headCopiesRow.laid W) : Lib.TabIs Tryd.prog W "orchard/sum.lowTable" .u32 LO :=
  Lib.tabIs_of_head (rest := [("orchard/sum.highTable", Rows.laid_orchard_sum_highTable)]) gLo gLoType Tryd.underlying165 Tryd.underlying158 cellsSum cellsTab h
theorem table_hi {W : World} (h : laidMetH Tryd.prog Rows.headCopiesRow.laid W) : Lib.TabIs Tryd.prog W "orchard/sum.highTable" .u32 HI :=
  Lib.tabIs_of_head (rest := []) gHi gHiType Tryd.underlying165 Tryd.underlying158 cellsSum cellsTab (laidMet.tail (show laidMet Tryd.prog [("orchard/sum.lowTable", Rows.laid_orchard_sum_lowTable), ("orchard/sum.highTable", Rows.laid_orchard_sum_highTable)] W from h))
theorem tabs_of {W : World} (h : laidMetH Tryd.prog Rows.headCopiesRow.laid W) : Tabs W := by
  have c0 := fun (j : Nat) (hj : j < 16) => (table_hi h).cell gHi j hj
  have c1 := fun (j : Nat) (hj : j < 16) => (table_lo h).cell gLo j hj
  refine ⟨⟨World.block_lt_of_cell? W _ (c0 0 (by decide)), World.block_lt_of_cell? W _ (c1 0 (by decide))⟩, fun j hj => ?_, fun j hj => ?_⟩
  · rw [c0 j hj, hi_cast j]
  · rw [c1 j hj, lo_cast j]

theorem contract (H : Type) (enc : TypeId × Value → H) (W : World) (base : Nat) (args : Array Value) (ds gs : List (DataW H)) (before : List MemPlace)
    (hval : ∀ (j : Nat) t v, Tryd.f4.params[j]? = some t → args[j]? = some v → Value.okWide Tryd.prog W .any base t v)
    (hW : DataW.Whole enc Tryd.prog Tryd.f4.params.toList Rows.headCopiesSpec.vars false W args.toList ds gs before) (hL : laidMetH Tryd.prog Rows.headCopiesRow.laid W) :
    Calls Tryd.prog 4 args W fun e W' => ∃ v, e = .returned v ∧ Rows.headCopiesSpec.post enc Tryd.prog Tryd.f4 false true false false W args v W' := by
  have hT := tabs_of hL
  have hW' := hW
  obtain ⟨p, q, hA0, hV, rfl, hfz, hnd⟩ := hW
  have hA : DataW.TrodAll enc Tryd.prog W 0 (fun _ => true) true Tryd.f4.params.toList args.toList ds p := hA0
  rw [Tryd.params4] at hA hval
  obtain ⟨v0, vs0, d0, ds0, p0, q0, hargs, rfl, rfl, h0, r0⟩ := trodAll_cons hA
  obtain ⟨v1, vs1, d1, ds1, p1, q1, rfl, rfl, rfl, h1, r1⟩ := trodAll_cons r0
  obtain ⟨rfl, rfl, rfl⟩ := trodAll_nil r1
  obtain rfl : args = #[v0, v1] := by cases args; simp_all
  obtain ⟨rfl, rfl⟩ := trodVars_none hV
  have k0 := h0
  have lt0 : ∀ x ∈ p0, x.block < W.heap.size := by obtain ⟨m, hm⟩ := k0; exact DataW.trod_lt m _ _ _ hm
  obtain ⟨z0, w0⟩ := hd_of (hval 0 23 v0 rfl rfl) h0
  obtain ⟨a1, rfl, rfl, rfl, w1⟩ := open_int Tryd.underlying3 (hval 1 3 v1 rfl rfl) h1
  clear hA0
  refine (walk v0 z0 a1 W w0 w1 hT).mono fun e W' ⟨he, bel⟩ => ?_
  subst he
  exact ⟨_, rfl, _, _, _, [], _, [], hW', trodAll_mk1 (shut_bool Tryd.underlying4 _), (trodAll_cons_mk (Below.trod laidOut (by kernel_rfl) (of_decide_eq_true (by kernel_rfl)) k0 bel lt0) (trodAll_cons_mk (shut_int Tryd.underlying3 w1) trodAll_mk0)), rfl, bel.frame _, fun h => by cases h⟩

def setTab (l : List Int) : Obj → Obj
  | .cells _ t frozen => .cells (l.map (Value.int .u32)).toArray t frozen
  | o => o
noncomputable def laidWorld (os : Os) : World :=
  { World.holding Tryd.prog os ⟨#[], #[], []⟩ with heap := ((World.holding Tryd.prog os ⟨#[], #[], []⟩).heap.modify 1 (setTab LO)).modify 0 (setTab HI) }
theorem laid_met (os : Os) : laidMet Tryd.prog Rows.headCopiesRow.laid ((laidWorld os).forCall (fun _ _ => 0) ⟨#[], #[.agg #[.int .i64 0, .int .i64 0, .int .i64 0, .int .i64 0], .int .i64 0], []⟩).memory :=
  laidMet_of_run' 8 (by kernel_rfl) (by kernel_rfl)
theorem reads (os : Os) {H : Type} (enc : TypeId × Value → H) : ∃ places, DataW.whole enc Tryd.prog ((laidWorld os).forCall (fun _ _ => 0) ⟨#[], #[.agg #[.int .i64 0, .int .i64 0, .int .i64 0, .int .i64 0], .int .i64 0], []⟩).memory Tryd.f4.params.toList Rows.headCopiesSpec.vars false #[Value.agg #[.int .i64 0, .int .i64 0, .int .i64 0, .int .i64 0], Value.int .i64 0].toList 8 = some ([.agg [.lit (.int .i64 0), .lit (.int .i64 0), .lit (.int .i64 0), .lit (.int .i64 0)], .lit (.int .i64 0)], [], places) :=
  ⟨[], by kernel_rfl⟩

set_option maxRecDepth 100000 in
theorem lifted (os : Os) (started : os.Started) (H : Type) (enc : TypeId × Value → H) (F : Stop.Interp) :
    ReturnsInHanded {} Tryd.checked os 4 .any ((OpenSpec.ofChange Rows.headCopiesSpec).preRow enc Tryd.prog Tryd.f4 Rows.headCopiesRow.domain false Rows.headCopiesRow.laid) (((OpenSpec.ofChange Rows.headCopiesSpec).at F).post enc Tryd.prog Tryd.f4 false true false false) := by
  obtain ⟨places, hx⟩ := reads os enc
  refine returnsInHanded_of_row (C := Tryd.checked) (s := OpenSpec.ofChange Rows.headCopiesSpec) own started (by kernel_rfl) Tryd.func4
    (witness_row_at (enc := enc) (C := Tryd.checked) false (laidWorld os) #[.agg #[.int .i64 0, .int .i64 0, .int .i64 0, .int .i64 0], .int .i64 0] rfl (by kernel_rfl) (by kernel_rfl) (by kernel_rfl)
      (OpenSpec.preRow_of_cond 8 hx (by kernel_rfl) (fun k hk => by cases hk) (by kernel_rfl) (laid_met os))) ?_
  intro W base args ds gs before hval hW _ _ _ hL _ _
  exact contract H enc W base args ds gs before hval hW hL

theorem said : Rows.HeadCopiesSaid :=
  OpenClaim.holds_of_cond 4 Tryd.f4 rfl rfl rfl rfl rfl rfl rfl ⟨rfl, rfl, rfl, rfl, rfl⟩ rfl rfl rfl rfl rfl (by kernel_rfl) Tryd.func4 (by kernel_rfl)
    (of_decide_eq_true (by kernel_rfl)) (by unfold Func.isWrapper; first | (rw [if_pos (by decide +kernel)]; kernel_rfl) | (rw [if_neg (by decide +kernel)]; exact ⟨rfl, rfl⟩))
    (fun os started H enc _ F => by rw [OpenClaim.pre_eq_preRow]; exact lifted os started H enc F)

theorem plain (f : FuncId) (fn : Func) (hf : Tryd.pinned.checked.prog.funcNamed "orchard/orchardlaw05.HeadCopies" = some f) (hfn : Tryd.pinned.checked.prog.funcs[f]? = some fn) :
    false = Tryd.pinned.checked.prog.looks [] ∧ ∀ (j : Nat) t, fn.params[j]? = some t → Tryd.pinned.checked.prog.wantsStandIn t = false := by
  obtain rfl : f = 4 := Option.some.inj ((show Tryd.prog.funcNamed "orchard/orchardlaw05.HeadCopies" = some 4 by kernel_rfl).symm.trans hf) |>.symm
  obtain rfl : fn = Tryd.f4 := (Option.some.inj (Tryd.func4.symm.trans hfn)).symm
  refine ⟨by kernel_rfl, fun j t ht => ?_⟩
  rw [Tryd.params4] at ht
  have hm := Array.mem_of_getElem? ht
  simp at hm
  rcases hm with rfl | rfl
  · exact (show Tryd.prog.wantsStandIn 23 = false by kernel_rfl)
  · exact (show Tryd.prog.wantsStandIn 3 = false by kernel_rfl)

theorem card : Rows.HeadCopiesCardSaid :=
  Claim7.holds_tied_plain_at .later [] _ _ _ _ said (fun _ h => by cases h) (by kernel_rfl) (fun _ h => by cases h) headCopies_row_tie rfl ⟨rfl, rfl⟩ (by kernel_rfl) rfl plain (by kernel_rfl)
end Go.Proofs.YtpjbkeheemhlnaaDoor.headCopies
