/- SumBits: of three texts of one length (of at most 300 bytes), bit by bit together, the checksum is the three checksums' bits together; no condition on the input (the two tables start as the program's text lays them). -/
import Derived.Test.YtefofhejaafgnaaDoorBitsMath
import Derived.Test.YtefofhejaafgnaaDoorLongRow
import Derived.Test.YtefofhejaafgnaaDoorSumSeal
import Derived.Test.YtefofhejaafgnaaDoorInvar
import Derived.Test.YtefofhejaafgnaaDoorCards
import Derived.Test.YtefofhejaafgnaaDoorTie
import Derived.Deep.RegionLaw
import Derived.Deep.AppendLies
import Derived.Deep.RegionHeld3
import Derived.ProofKit
import Derived.OpenShut
import Derived.ShutString
import Derived.ChangeOld
import Derived.Deep.DeepHandedRow
import Derived.Lib.LaidTab
import Derived.Stop.LaidErr
namespace Go.Proofs.YtefofhejaafgnaaDoor.sumBits
open Go.ChangeShapes Go.WideShapes Go.ChangeAt Go.RowKit
open Go.ChangeMaps (open_string shut_string)
set_option linter.unusedVariables false

theorem min4 (ts : Array TypeId) (t : TypeId) (x y z : Nat) : ∃ n : Nat, n ≤ x ∧ n ≤ y ∧ n ≤ z ∧ n ≤ 300 ∧ ∀ w : World,
    (Builtin.min_ ts t #[.int .i64 (x : Int), .int .i64 (y : Int), .int .i64 (z : Int), .int .i64 300]).run Tryd.prog w = .ok (.int .i64 (n : Int)) w := by
  refine ⟨min (min (min x y) z) 300, by omega, by omega, by omega, by omega, fun w => ?_⟩
  simp [Builtin.min_, Builtin.min2]
  (repeat' split) <;> omega

/-- One string, in a slice of its own. -/
def One (w : World) (v : Value) (s : ByteArray) : Prop := ∃ b, v = .slice (some ⟨b, 0, none⟩) 1 1 ∧ w.cell? ⟨b, 0, none⟩ = some (.string s) ∧ b < w.heap.size
theorem One.below {w w' : World} {v : Value} {s : ByteArray} (h : One w v s) (k : Below w.heap.size w w') : One w' v s := by
  obtain ⟨b, hv, hc, hb⟩ := h
  exact ⟨b, hv, (k.cell (p := ⟨b, 0, none⟩) hb).trans hc, Nat.lt_of_lt_of_le hb k.size⟩
theorem One.new (w : World) (s : ByteArray) : One (w.alloc (.cells #[.string s] 9)) (.slice (some ⟨w.heap.size, 0, none⟩) 1 1) s :=
  ⟨_, rfl, by simp [World.cell?_alloc_at], by simp⟩
theorem One.of {w : World} {v : Value} {s : ByteArray} (h : One w v s) (ht : Tabs w) (hs : s.size ≤ maxLen) :
    Calls Tryd.prog 9 #[v] w fun e w' => e = .returned (.int .u32 (addN 0 s.data.toList)) ∧ Below w.heap.size w w' := by
  obtain ⟨b, rfl, hc, hb⟩ := h
  refine (of_any _ b 0 1 [s] w ht (fun _ => ⟨rfl, hb⟩) (by simp) ?_ ?_).mono ?_
  · intro j hj
    match j, hj with
    | 0, _ => exact hs
  · intro j hj
    match j, hj with
    | 0, _ => exact hc
  · rintro e w' ⟨he, hb⟩
    refine ⟨?_, hb⟩
    rw [he]
    simp [catN]
theorem src_of {w : World} {B m : Nat} {v : Value} {f : Nat → Nat} (h : sumLong.Bs w B v m f) (hf : ∀ j, f j < 256) : Src w v (bytesF f m) := by
  have e : cellsOf (bytesF f m) = sumLong.cellsF f m := by
    unfold cellsOf bytesF sumLong.cellsF
    rw [List.map_map]
    refine List.map_congr_left fun j _ => ?_
    show Value.int .u8 ((UInt8.ofNat (f j)).toNat : Int) = _
    rw [UInt8.toNat_ofNat', Nat.mod_eq_of_lt (hf j)]
  have hl : (bytesF f m).length = m := bytesF_length f m
  rcases h.2 with ⟨hv, h0⟩ | ⟨g, cap, cur, hv, hg, hh, hc1, hc2, hc3, hc4⟩
  · subst h0
    exact ⟨none, 0, by rw [hv, hl], .inl ⟨rfl, rfl, rfl⟩⟩
  · refine ⟨_, cap, by rw [hv, hl], .inr ⟨_, rfl, fun j x hx => ?_⟩⟩
    rw [e] at hx
    have hj : j < m := by
      have := (List.getElem?_eq_some_iff.1 hx).1
      rw [sumLong.cellsF_length] at this
      exact this
    rw [← hc4, List.getElem?_take] at hx
    simp only [Nat.mul_one, hj, if_true] at hx
    rw [show (Addr.add ⟨g, 0, none⟩ j : Addr) = ⟨g, j, none⟩ by simp [Addr.add]; omega]
    simp only [World.cell?, hh]
    simpa using hx

/-- What each operation of the last statement leaves. -/
def FB (x0 : Value) (X A B C a0 a1 a2 : ByteArray) (n rx ra rb rc : Nat) : Nat → Value → World → Prop
  | 0, v, _ => v = x0
  | 1, v, _ => v = .string X
  | 2, v, w => One w v X
  | 3, v, _ => v = .int .u32 (rx : Int)
  | 4, v, _ => v = .string a0
  | 5, v, _ => v = .int .i64 (n : Int)
  | 6, v, _ => v = .string A
  | 7, v, w => One w v A
  | 8, v, _ => v = .int .u32 (ra : Int)
  | 9, v, _ => v = .string a1
  | 10, v, _ => v = .int .i64 (n : Int)
  | 11, v, _ => v = .string B
  | 12, v, w => One w v B
  | 13, v, _ => v = .int .u32 (rb : Int)
  | 14, v, _ => v = .int .u32 ((ra ^^^ rb : Nat) : Int)
  | 15, v, _ => v = .string a2
  | 16, v, _ => v = .int .i64 (n : Int)
  | 17, v, _ => v = .string C
  | 18, v, w => One w v C
  | 19, v, _ => v = .int .u32 (rc : Int)
  | 20, v, _ => v = .int .u32 ((ra ^^^ rb ^^^ rc : Nat) : Int)
  | 21, v, _ => v = .bool true
  | 22, v, _ => v = .bool true
  | _, _, _ => True

theorem run_build1 (W : World) (s : ByteArray) : (Instr.buildSlice 29 1 #[(0, .string s)]).run Tryd.prog W = .ok (.slice (some ⟨W.heap.size, 0, none⟩) 1 1) (W.alloc (.cells #[.string s] 9)) := by
  go_simp
theorem run_head (s : ByteArray) (k : Nat) (W : World) (hk : k ≤ s.size) : (Instr.sliceAt 9 (.string s) none (some (.int .i64 (k : Int))) none).run Tryd.prog W = .ok (.string (s.extract 0 k)) W := by
  have h0 : (0 : Int) ≤ (k : Int) := by omega
  have h1 : (k : Int) ≤ (s.size : Int) := by omega
  go_simp
theorem run_xor32 (a b : Nat) (W : World) (ha : a < 4294967296) (hb : b < 4294967296) : (do eqGuard .xor 24 (.tmp 47) (.tmp 52) (.int .u32 (a : Int)) (.int .u32 (b : Int)); binOp .xor 24 (.int .u32 (a : Int)) (.int .u32 (b : Int)) : Sem Value).run Tryd.prog W = .ok (.int .u32 ((a ^^^ b : Nat) : Int)) W := by
  have h := u32_xor_nat a b ha hb
  go_simp
theorem run_eql32 (a : Nat) (W : World) : (do eqGuard .eql 24 (.tmp 42) (.tmp 59) (.int .u32 (a : Int)) (.int .u32 (a : Int)); binOp .eql 24 (.int .u32 (a : Int)) (.int .u32 (a : Int)) : Sem Value).run Tryd.prog W = .ok (.bool true) W := by
  go_simp
theorem run_of_call (W : World) (v : Value) : (callFunc 9 #[v]).run Tryd.prog W = .ok (.enter 9 #[v]) W := by
  go_simp

set_option maxRecDepth 100000 in
set_option maxHeartbeats 4000000 in
theorem walk (a0 a1 a2 : ByteArray) (w : World) (w0 : a0.size ≤ maxLen) (w1 : a1.size ≤ maxLen) (w2 : a2.size ≤ maxLen) (hT : Tabs w) :
    Calls Tryd.prog 6 #[.string a0, .string a1, .string a2] w fun e w' => e = .returned (.bool true) ∧ Below w.heap.size w w' := by
  obtain ⟨i0, hi, hz0, hz1, hz2⟩ := info_parts sumLong.info_u8
  unfold maxLen at w0 w1 w2
  have HT := Lib.hid hT
  clear hT
  obtain ⟨n, n0, n1, n2, n3, hmin⟩ := min4 #[3, 3, 3, 3] 3 a0.size a1.size a2.size
  obtain ⟨f, hf⟩ : ∃ f : Nat → Nat, f = fun j => byteF a0 j ^^^ byteF a1 j ^^^ byteF a2 j := ⟨_, rfl⟩
  have HF := Lib.hid hf
  clear hf
  go_enter Tryd.func6, Tryd.ntmps6
  go_wp2_with fail
  refine (head_any _ HT.out).mono ?_
  rintro e w1 ⟨rfl, hb1⟩
  go_wp2_with fail
  clear hmin
  have hb2 := hb1.alloc hb1.size (.cells #[] 5)
  have hs2 : sumLong.Bs (w1.alloc (.cells #[] 5)) w.heap.size (.slice (some ⟨w1.heap.size, 0, none⟩) 0 0) 0 f :=
    ⟨rfl, .inr ⟨w1.heap.size, 0, #[], rfl, hb1.size, heap_alloc_new w1 _, Nat.le_refl _, by unfold maxLen; omega, rfl, rfl⟩⟩
  go_loopw [8, 9] (fun v i wr => ∃ k : Nat, k ≤ n ∧ i = .int .i64 k ∧ sumLong.Bs wr w.heap.size v k f ∧ Below w.heap.size w wr) (fun _ i _ => n - (intOf i).toNat)
  case atStart => exact ⟨0, Nat.zero_le _, rfl, hs2, hb2⟩
  case round =>
    obtain ⟨k, hk, rfl, hown, hbw⟩ := hrel
    clear hs2 hb2 hb1
    by_cases hlt : k < n
    · have g0 : (k : Int) < (a0.size : Int) := by omega
      have g1 : (k : Int) < (a1.size : Int) := by omega
      have g2 : (k : Int) < (a2.size : Int) := by omega
      have k0 : k < a0.size := by omega
      have k1 : k < a1.size := by omega
      have k2 : k < a2.size := by omega
      obtain ⟨p, hp⟩ : ∃ p : Nat, p = a0[k].toNat ^^^ a1[k].toNat := ⟨_, rfl⟩
      obtain ⟨q, hq⟩ : ∃ q : Nat, q = p ^^^ a2[k].toNat := ⟨_, rfl⟩
      have hpl : p < 256 := by rw [hp]; exact xor_lt8 _ _ (UInt8.toNat_lt _) (UInt8.toNat_lt _)
      have hx1 : bits BinOp.xor IntKind.u8 (a0[k].toNat : Int) (a1[k].toNat : Int) = (p : Int) := by rw [hp]; exact u8_xor_nat _ _ (UInt8.toNat_lt _) (UInt8.toNat_lt _)
      have hx2 : bits BinOp.xor IntKind.u8 (p : Int) (a2[k].toNat : Int) = (q : Int) := by rw [hq]; exact u8_xor_nat _ _ hpl (UInt8.toNat_lt _)
      have HQ : Hid (f k = q) := by
        rw [HF.out, hq, hp]
        show byteF a0 k ^^^ byteF a1 k ^^^ byteF a2 k = _
        rw [byteF_at a0 k k0, byteF_at a1 k k1, byteF_at a2 k k2]
      have hsz := hbw.size
      have HN := Lib.hid (sumLong.new_bit wr (q : Int))
      have HI := Lib.hid (sumLong.new_bit_one (q : Int))
      have HBS := Lib.hid (show w.heap.size ≤ (wr.alloc (.cells #[.int .u8 (q : Int)] 5)).heap.size by simp; omega)
      have H63 := Lib.hid (show k + 1 ≤ maxLen by unfold maxLen; omega)
      have H47 := Lib.hid (show (k + 1) * 1 ≤ 140737488355328 by omega)
      have HOW := Lib.hid (show (wr.alloc (.cells #[.int .u8 (q : Int)] 5)).drew.ownsRow w.heap.size 5 1 u8 k (sumLong.cellsF f k) from (hown.alloc _).drew)
      clear hp hq hpl
      go_wp2_with fail
      go_region_held3 (fun w' => True) (trivial) (((refine step_append_lies _ (by rfl) _ _ _ (by rfl) w.heap.size 5 i0 (.int .u8 0) 1 1 sumLong.und_bytes hi hz0 hz1 hz2 rfl (by decide) u8 k (sumLong.cellsF f k) (by rfl) HOW.out ⟨wr.heap.size, 0, none⟩ 1 1 [.int .u8 (q : Int)] (by rfl) rfl HN.out HI.out (by decide) H63.out H47.out HBS.out (wr.heap.size + 1) (by simp) ?_; intro g9 cap9 w4 ho4 hg4 hat9 hlt9)))
      all_goals
        have hs4 : sumLong.Bs w4 w.heap.size (.slice (some ⟨g9, 0, none⟩) (k + 1) cap9) (k + 1) f := sumLong.Bs.add (by rw [HQ.out]; exact ho4) rfl
        have hb4 : Below w.heap.size w w4 := (((hbw.alloc hsz _).drew)).grown hg4 (by simp; omega) (sumLong.Bs.own hown)
        clear ho4 hg4 hat9 hlt9 hown hx1 hx2
        go_wp2_with fail
        go_roundw
        case rel => exact ⟨k + 1, by omega, by go_num, hs4, hb4⟩
        case measure => simp [intOf]; omega
    · have hkn : k = n := by omega
      subst hkn
      obtain ⟨a3, c3, rfl⟩ := hown.shape
      have hf8 : ∀ j, f j < 256 := fun j => by rw [HF.out]; exact xor_lt8 _ _ (xor_lt8 _ _ (byteF_lt a0 j) (byteF_lt a1 j)) (byteF_lt a2 j)
      have HSRC := Lib.hid (src_of hown hf8)
      clear hown hf8
      obtain ⟨X, hX⟩ : ∃ X : ByteArray, X = ⟨(bytesF f k).toArray⟩ := ⟨_, rfl⟩
      obtain ⟨A, hA⟩ : ∃ A : ByteArray, A = a0.extract 0 k := ⟨_, rfl⟩
      obtain ⟨B, hB⟩ : ∃ B : ByteArray, B = a1.extract 0 k := ⟨_, rfl⟩
      obtain ⟨C, hC⟩ : ∃ C : ByteArray, C = a2.extract 0 k := ⟨_, rfl⟩
      obtain ⟨ra, hra⟩ : ∃ ra, ra = addN 0 A.data.toList := ⟨_, rfl⟩
      obtain ⟨rb, hrb⟩ : ∃ rb, rb = addN 0 B.data.toList := ⟨_, rfl⟩
      obtain ⟨rc, hrc⟩ : ∃ rc, rc = addN 0 C.data.toList := ⟨_, rfl⟩
      have HRX : Hid (addN 0 X.data.toList = ra ^^^ rb ^^^ rc) := by
        rw [hra, hrb, hrc, hX, data_mk, HF.out, add_three a0 a1 a2 k n0 n1 n2, hA, hB, hC, Lib.extract_data, Lib.extract_data, Lib.extract_data]
        simp
        exact Lib.hid trivial
      have hal : ra < 4294967296 := by rw [hra]; exact addN_lt _ _ (by omega)
      have hbl : rb < 4294967296 := by rw [hrb]; exact addN_lt _ _ (by omega)
      have hcl : rc < 4294967296 := by rw [hrc]; exact addN_lt _ _ (by omega)
      have hst : ∀ W, Below wr.drew.heap.size wr.drew W → (convert 34 9 (.slice a3 k c3)).run Tryd.prog W = .ok (.string X) W := fun W hW => by
        rw [hX]
        exact run_str ((show Src wr.drew _ _ from HSRC.out).below hW)
      have hcA : ∀ W : World, (Instr.sliceAt 9 (.string a0) none (some (.int .i64 (k : Int))) none).run Tryd.prog W = .ok (.string A) W := fun W => by
        rw [hA]; exact run_head a0 k W n0
      have hcB : ∀ W : World, (Instr.sliceAt 9 (.string a1) none (some (.int .i64 (k : Int))) none).run Tryd.prog W = .ok (.string B) W := fun W => by
        rw [hB]; exact run_head a1 k W n1
      have hcC : ∀ W : World, (Instr.sliceAt 9 (.string a2) none (some (.int .i64 (k : Int))) none).run Tryd.prog W = .ok (.string C) W := fun W => by
        rw [hC]; exact run_head a2 k W n2
      have hx1 := fun W => run_xor32 ra rb W hal hbl
      have hx2 := fun W => run_xor32 (ra ^^^ rb) rc W (xor_lt32 _ _ hal hbl) hcl
      have hx3 := fun W => run_eql32 (ra ^^^ rb ^^^ rc) W
      have HX : Hid (addN 0 X.data.toList = ra ^^^ rb ^^^ rc) := HRX
      have HA : Hid (addN 0 A.data.toList = ra) := hra.symm
      have HB : Hid (addN 0 B.data.toList = rb) := hrb.symm
      have HC : Hid (addN 0 C.data.toList = rc) := hrc.symm
      have hxm : X.size ≤ maxLen := by rw [hX, size_mk, bytesF_length]; unfold maxLen; omega
      have ham : A.size ≤ maxLen := by rw [hA]; simp; unfold maxLen; omega
      have hbm : B.size ≤ maxLen := by rw [hB]; simp; unfold maxLen; omega
      have hcm : C.size ≤ maxLen := by rw [hC]; simp; unfold maxLen; omega
      go_wp2_with fail
      refine wp_region_facts (FB (.slice a3 k c3) X A B C a0 a1 a2 k (ra ^^^ rb ^^^ rc) ra rb rc) (fun w w' => Below w.heap.size w w') (by kernel_rfl) (by kernel_rfl) (by kernel_rfl) (Below.refl _ _) ?_ (fun u v w h1 h2 => h1.trans (h2.mono h1.size)) ?_ ?_
      · intro i v w w' _ h1 h2
        unfold FB at *
        split at h1 <;> first | exact h1 | exact One.below h1 h2
      · intro i o ho x w1 hR hF
        match i, ho with
        | 0, ho =>
          obtain rfl := Option.some.inj ho
          exact step_move rfl rfl _ rfl _ (eval_of 8 _ (by kernel_rfl) rfl) ⟨_, rfl, rfl, Below.refl _ _⟩
        | 1, ho =>
          obtain rfl := Option.some.inj ho
          exact step_convert rfl rfl _ _ _ rfl _ (eval_at 39 0 _ (by kernel_rfl) (show 39 < 61 by decide) (hF 0 (by kernel_rfl))) _ _ (hst w1 hR) ⟨_, rfl, rfl, Below.refl _ _⟩
        | 2, ho =>
          obtain rfl := Option.some.inj ho
          exact step_build rfl rfl _ _ rfl _ (eval_at 40 1 _ (by kernel_rfl) (show 40 < 61 by decide) (hF 1 (by kernel_rfl))) _ _ (run_build1 w1 X) ⟨_, rfl, One.new w1 X, (Below.refl _ _).alloc (Nat.le_refl _) _⟩
        | 3, ho =>
          obtain rfl := Option.some.inj ho
          refine step_call rfl rfl _ _ _ rfl (x 2) (eval_at 41 2 _ (by kernel_rfl) (show 41 < 61 by decide) rfl) (run_of_call w1 _) ?_
          refine (One.of (hF 2 (by kernel_rfl)) (HT.out.below (hbw.drew.trans (hR.mono hbw.drew.size))) hxm).mono ?_
          rintro e w2 ⟨he, hb⟩
          exact ⟨_, he, _, rfl, by show Value.int .u32 _ = Value.int .u32 _; rw [HX.out], hb⟩
        | 4, ho =>
          obtain rfl := Option.some.inj ho
          exact step_move rfl rfl _ rfl _ (eval_of 0 _ (by kernel_rfl) rfl) ⟨_, rfl, rfl, Below.refl _ _⟩
        | 5, ho =>
          obtain rfl := Option.some.inj ho
          exact step_move rfl rfl _ rfl _ (eval_of 7 _ (by kernel_rfl) rfl) ⟨_, rfl, rfl, Below.refl _ _⟩
        | 6, ho =>
          obtain rfl := Option.some.inj ho
          exact step_cut rfl rfl _ _ _ rfl _ _ (eval_at 43 4 _ (by kernel_rfl) (show 43 < 61 by decide) (hF 4 (by kernel_rfl))) (eval_at 44 5 _ (by kernel_rfl) (show 44 < 61 by decide) (hF 5 (by kernel_rfl))) _ _ (hcA w1) ⟨_, rfl, rfl, Below.refl _ _⟩
        | 7, ho =>
          obtain rfl := Option.some.inj ho
          exact step_build rfl rfl _ _ rfl _ (eval_at 45 6 _ (by kernel_rfl) (show 45 < 61 by decide) (hF 6 (by kernel_rfl))) _ _ (run_build1 w1 A) ⟨_, rfl, One.new w1 A, (Below.refl _ _).alloc (Nat.le_refl _) _⟩
        | 8, ho =>
          obtain rfl := Option.some.inj ho
          refine step_call rfl rfl _ _ _ rfl (x 7) (eval_at 46 7 _ (by kernel_rfl) (show 46 < 61 by decide) rfl) (run_of_call w1 _) ?_
          refine (One.of (hF 7 (by kernel_rfl)) (HT.out.below (hbw.drew.trans (hR.mono hbw.drew.size))) ham).mono ?_
          rintro e w2 ⟨he, hb⟩
          exact ⟨_, he, _, rfl, by show Value.int .u32 _ = Value.int .u32 _; rw [HA.out], hb⟩
        | 9, ho =>
          obtain rfl := Option.some.inj ho
          exact step_move rfl rfl _ rfl _ (eval_of 1 _ (by kernel_rfl) rfl) ⟨_, rfl, rfl, Below.refl _ _⟩
        | 10, ho =>
          obtain rfl := Option.some.inj ho
          exact step_move rfl rfl _ rfl _ (eval_of 7 _ (by kernel_rfl) rfl) ⟨_, rfl, rfl, Below.refl _ _⟩
        | 11, ho =>
          obtain rfl := Option.some.inj ho
          exact step_cut rfl rfl _ _ _ rfl _ _ (eval_at 48 9 _ (by kernel_rfl) (show 48 < 61 by decide) (hF 9 (by kernel_rfl))) (eval_at 49 10 _ (by kernel_rfl) (show 49 < 61 by decide) (hF 10 (by kernel_rfl))) _ _ (hcB w1) ⟨_, rfl, rfl, Below.refl _ _⟩
        | 12, ho =>
          obtain rfl := Option.some.inj ho
          exact step_build rfl rfl _ _ rfl _ (eval_at 50 11 _ (by kernel_rfl) (show 50 < 61 by decide) (hF 11 (by kernel_rfl))) _ _ (run_build1 w1 B) ⟨_, rfl, One.new w1 B, (Below.refl _ _).alloc (Nat.le_refl _) _⟩
        | 13, ho =>
          obtain rfl := Option.some.inj ho
          refine step_call rfl rfl _ _ _ rfl (x 12) (eval_at 51 12 _ (by kernel_rfl) (show 51 < 61 by decide) rfl) (run_of_call w1 _) ?_
          refine (One.of (hF 12 (by kernel_rfl)) (HT.out.below (hbw.drew.trans (hR.mono hbw.drew.size))) hbm).mono ?_
          rintro e w2 ⟨he, hb⟩
          exact ⟨_, he, _, rfl, by show Value.int .u32 _ = Value.int .u32 _; rw [HB.out], hb⟩
        | 14, ho =>
          obtain rfl := Option.some.inj ho
          exact step_bin rfl rfl _ _ _ _ _ rfl _ _ (eval_at 47 8 _ (by kernel_rfl) (show 47 < 61 by decide) (hF 8 (by kernel_rfl))) (eval_at 52 13 _ (by kernel_rfl) (show 52 < 61 by decide) (hF 13 (by kernel_rfl))) _ (hx1 w1) ⟨_, rfl, rfl, Below.refl _ _⟩
        | 15, ho =>
          obtain rfl := Option.some.inj ho
          exact step_move rfl rfl _ rfl _ (eval_of 2 _ (by kernel_rfl) rfl) ⟨_, rfl, rfl, Below.refl _ _⟩
        | 16, ho =>
          obtain rfl := Option.some.inj ho
          exact step_move rfl rfl _ rfl _ (eval_of 7 _ (by kernel_rfl) rfl) ⟨_, rfl, rfl, Below.refl _ _⟩
        | 17, ho =>
          obtain rfl := Option.some.inj ho
          exact step_cut rfl rfl _ _ _ rfl _ _ (eval_at 54 15 _ (by kernel_rfl) (show 54 < 61 by decide) (hF 15 (by kernel_rfl))) (eval_at 55 16 _ (by kernel_rfl) (show 55 < 61 by decide) (hF 16 (by kernel_rfl))) _ _ (hcC w1) ⟨_, rfl, rfl, Below.refl _ _⟩
        | 18, ho =>
          obtain rfl := Option.some.inj ho
          exact step_build rfl rfl _ _ rfl _ (eval_at 56 17 _ (by kernel_rfl) (show 56 < 61 by decide) (hF 17 (by kernel_rfl))) _ _ (run_build1 w1 C) ⟨_, rfl, One.new w1 C, (Below.refl _ _).alloc (Nat.le_refl _) _⟩
        | 19, ho =>
          obtain rfl := Option.some.inj ho
          refine step_call rfl rfl _ _ _ rfl (x 18) (eval_at 57 18 _ (by kernel_rfl) (show 57 < 61 by decide) rfl) (run_of_call w1 _) ?_
          refine (One.of (hF 18 (by kernel_rfl)) (HT.out.below (hbw.drew.trans (hR.mono hbw.drew.size))) hcm).mono ?_
          rintro e w2 ⟨he, hb⟩
          exact ⟨_, he, _, rfl, by show Value.int .u32 _ = Value.int .u32 _; rw [HC.out], hb⟩
        | 20, ho =>
          obtain rfl := Option.some.inj ho
          exact step_bin rfl rfl _ _ _ _ _ rfl _ _ (eval_at 53 14 _ (by kernel_rfl) (show 53 < 61 by decide) (hF 14 (by kernel_rfl))) (eval_at 58 19 _ (by kernel_rfl) (show 58 < 61 by decide) (hF 19 (by kernel_rfl))) _ (hx2 w1) ⟨_, rfl, rfl, Below.refl _ _⟩
        | 21, ho =>
          obtain rfl := Option.some.inj ho
          exact step_bin rfl rfl _ _ _ _ _ rfl _ _ (eval_at 42 3 _ (by kernel_rfl) (show 42 < 61 by decide) (hF 3 (by kernel_rfl))) (eval_at 59 20 _ (by kernel_rfl) (show 59 < 61 by decide) (hF 20 (by kernel_rfl))) _ (hx3 w1) ⟨_, rfl, rfl, Below.refl _ _⟩
        | 22, ho =>
          obtain rfl := Option.some.inj ho
          exact step_assign rfl rfl _ rfl _ (eval_at 60 21 _ (by kernel_rfl) (show 60 < 61 by decide) (hF 21 (by kernel_rfl))) ⟨_, rfl, rfl, Below.refl _ _⟩
        | n + 23, ho => simp at ho
      · intro x w1 hR hF
        have h22 : x 22 = .bool true := hF 22 (by decide)
        have hb9 := hbw.drew.trans (hR.mono hbw.drew.size)
        dsimp only [Exit.then]
        rename_i K hK
        refine hK _ _ ?_
        go_wp2_with fail
        refine bodyPost_ret (v := .bool true) ?_ (putAll_defers _ _ _ _) ⟨rfl, hb9⟩
        refine results_one 6 rfl ?_ w1
        exact eval_at 6 22 _ (by kernel_rfl) (show 6 < 61 by decide) h22
theorem own : ownKnob Tryd.prog.godebug = none := by kernel_rfl
theorem laidOut : laidOutB Tryd.prog = true := by kernel_rfl
theorem gHi : Tryd.prog.globalNamed "orchard/sum.highTable" = some 0 := by kernel_rfl
theorem gLo : Tryd.prog.globalNamed "orchard/sum.lowTable" = some 1 := by kernel_rfl
theorem gHiType : (Tryd.prog.globals[0]?).map (·.type) = some 39 := by kernel_rfl
theorem gLoType : (Tryd.prog.globals[1]?).map (·.type) = some 39 := by kernel_rfl
theorem cellsTab : Tryd.prog.cellsOf 39 = 16 := by kernel_rfl
theorem cellsSum : Tryd.prog.cellsOf 24 = 1 := by kernel_rfl

theorem table_lo {W : World} (h : laidMetH Tryd.prog Rows.sumBitsRow.laid W) : Lib.TabIs Tryd.prog W "orchard/sum.lowTable" .u32 LO :=
  Lib.tabIs_of_head (rest := [("orchard/sum.highTable", Rows.laid_orchard_sum_highTable)]) gLo gLoType Tryd.underlying39 Tryd.underlying24 cellsSum cellsTab h
theorem table_hi {W : World} (h : laidMetH Tryd.prog Rows.sumBitsRow.laid W) : Lib.TabIs Tryd.prog W "orchard/sum.highTable" .u32 HI :=
  Lib.tabIs_of_head (rest := []) gHi gHiType Tryd.underlying39 Tryd.underlying24 cellsSum cellsTab (laidMet.tail (show laidMet Tryd.prog [("orchard/sum.lowTable", Rows.laid_orchard_sum_lowTable), ("orchard/sum.highTable", Rows.laid_orchard_sum_highTable)] W from h))
theorem tabs_of {W : World} (h : laidMetH Tryd.prog Rows.sumBitsRow.laid W) : Tabs W := by
  have c0 := fun (j : Nat) (hj : j < 16) => (table_hi h).cell gHi j hj
  have c1 := fun (j : Nat) (hj : j < 16) => (table_lo h).cell gLo j hj
  refine ⟨⟨World.block_lt_of_cell? W _ (c0 0 (by decide)), World.block_lt_of_cell? W _ (c1 0 (by decide))⟩, fun j hj => ?_, fun j hj => ?_⟩
  · rw [c0 j hj, hi_cast j]
  · rw [c1 j hj, lo_cast j]

theorem contract (H : Type) (enc : TypeId × Value → H) (W : World) (base : Nat) (args : Array Value) (ds gs : List (DataW H)) (before : List MemPlace)
    (hval : ∀ (j : Nat) t v, Tryd.f6.params[j]? = some t → args[j]? = some v → Value.okWide Tryd.prog W .any base t v)
    (hW : DataW.Whole enc Tryd.prog Tryd.f6.params.toList Rows.sumBitsSpec.vars false W args.toList ds gs before) (hL : laidMetH Tryd.prog Rows.sumBitsRow.laid W) :
    Calls Tryd.prog 6 args W fun e W' => ∃ v, e = .returned v ∧ Rows.sumBitsSpec.post enc Tryd.prog Tryd.f6 false true false false W args v W' := by
  have hT := tabs_of hL
  have hW' := hW
  obtain ⟨p, q, hA0, hV, rfl, hfz, hnd⟩ := hW
  have hA : DataW.TrodAll enc Tryd.prog W 0 (fun _ => true) true Tryd.f6.params.toList args.toList ds p := hA0
  rw [Tryd.params6] at hA hval
  obtain ⟨v0, vs0, d0, ds0, p0, q0, hargs, rfl, rfl, h0, r0⟩ := trodAll_cons hA
  obtain ⟨v1, vs1, d1, ds1, p1, q1, rfl, rfl, rfl, h1, r1⟩ := trodAll_cons r0
  obtain ⟨v2, vs2, d2, ds2, p2, q2, rfl, rfl, rfl, h2, r2⟩ := trodAll_cons r1
  obtain ⟨rfl, rfl, rfl⟩ := trodAll_nil r2
  obtain rfl : args = #[v0, v1, v2] := by cases args; simp_all
  obtain ⟨rfl, rfl⟩ := trodVars_none hV
  obtain ⟨a0, rfl, rfl, rfl, w0⟩ := open_string Tryd.underlying9 (hval 0 9 v0 rfl rfl) h0
  obtain ⟨a1, rfl, rfl, rfl, w1⟩ := open_string Tryd.underlying9 (hval 1 9 v1 rfl rfl) h1
  obtain ⟨a2, rfl, rfl, rfl, w2⟩ := open_string Tryd.underlying9 (hval 2 9 v2 rfl rfl) h2
  clear hA0
  refine (walk a0 a1 a2 W w0 w1 w2 hT).mono fun e W' ⟨he, bel⟩ => ?_
  subst he
  exact ⟨_, rfl, _, _, _, [], _, [], hW', trodAll_mk1 (shut_bool Tryd.underlying4 _), (trodAll_cons_mk (shut_string Tryd.underlying9 w0) (trodAll_cons_mk (shut_string Tryd.underlying9 w1) (trodAll_cons_mk (shut_string Tryd.underlying9 w2) trodAll_mk0))), rfl, bel.frame _, fun h => by cases h⟩

def setTab (l : List Int) : Obj → Obj
  | .cells _ t frozen => .cells (l.map (Value.int .u32)).toArray t frozen
  | o => o
noncomputable def laidWorld (os : Os) : World :=
  { World.holding Tryd.prog os ⟨#[], #[], []⟩ with heap := ((World.holding Tryd.prog os ⟨#[], #[], []⟩).heap.modify 1 (setTab LO)).modify 0 (setTab HI) }
theorem laid_met (os : Os) : laidMet Tryd.prog Rows.sumBitsRow.laid ((laidWorld os).forCall (fun _ _ => 0) ⟨#[], #[.string ByteArray.empty, .string ByteArray.empty, .string ByteArray.empty], []⟩).memory :=
  laidMet_of_run' 8 (by kernel_rfl) (by kernel_rfl)
theorem reads (os : Os) {H : Type} (enc : TypeId × Value → H) : ∃ places, DataW.whole enc Tryd.prog ((laidWorld os).forCall (fun _ _ => 0) ⟨#[], #[.string ByteArray.empty, .string ByteArray.empty, .string ByteArray.empty], []⟩).memory Tryd.f6.params.toList Rows.sumBitsSpec.vars false #[Value.string ByteArray.empty, Value.string ByteArray.empty, Value.string ByteArray.empty].toList 8 = some ([.lit (.string []), .lit (.string []), .lit (.string [])], [], places) :=
  ⟨[], by kernel_rfl⟩

set_option maxRecDepth 100000 in
theorem lifted (os : Os) (started : os.Started) (H : Type) (enc : TypeId × Value → H) (F : Stop.Interp) :
    ReturnsInHanded {} Tryd.checked os 6 .any ((OpenSpec.ofChange Rows.sumBitsSpec).preRow enc Tryd.prog Tryd.f6 Rows.sumBitsRow.domain false Rows.sumBitsRow.laid) (((OpenSpec.ofChange Rows.sumBitsSpec).at F).post enc Tryd.prog Tryd.f6 false true false false) := by
  obtain ⟨places, hx⟩ := reads os enc
  refine returnsInHanded_of_row (C := Tryd.checked) (s := OpenSpec.ofChange Rows.sumBitsSpec) own started (by kernel_rfl) Tryd.func6
    (witness_row_at (enc := enc) (C := Tryd.checked) false (laidWorld os) #[.string ByteArray.empty, .string ByteArray.empty, .string ByteArray.empty] rfl (by kernel_rfl) (by kernel_rfl) (by kernel_rfl)
      (OpenSpec.preRow_of_cond 8 hx (by kernel_rfl) (fun k hk => by cases hk) (by kernel_rfl) (laid_met os))) ?_
  intro W base args ds gs before hval hW _ _ _ hL _ _
  exact contract H enc W base args ds gs before hval hW hL

theorem said : Rows.SumBitsSaid :=
  OpenClaim.holds_of_cond 6 Tryd.f6 rfl rfl rfl rfl rfl rfl rfl ⟨rfl, rfl, rfl, rfl, rfl⟩ rfl rfl rfl rfl rfl (by kernel_rfl) Tryd.func6 (by kernel_rfl)
    (of_decide_eq_true (by kernel_rfl)) (by unfold Func.isWrapper; first | (rw [if_pos (by decide +kernel)]; kernel_rfl) | (rw [if_neg (by decide +kernel)]; exact ⟨rfl, rfl⟩))
    (fun os started H enc _ F => by rw [OpenClaim.pre_eq_preRow]; exact lifted os started H enc F)

theorem plain (f : FuncId) (fn : Func) (hf : Tryd.pinned.checked.prog.funcNamed "orchard/orchardlaw02.SumBits" = some f) (hfn : Tryd.pinned.checked.prog.funcs[f]? = some fn) :
    false = Tryd.pinned.checked.prog.looks [] ∧ ∀ (j : Nat) t, fn.params[j]? = some t → Tryd.pinned.checked.prog.wantsStandIn t = false := by
  obtain rfl : f = 6 := Option.some.inj ((show Tryd.prog.funcNamed "orchard/orchardlaw02.SumBits" = some 6 by kernel_rfl).symm.trans hf) |>.symm
  obtain rfl : fn = Tryd.f6 := (Option.some.inj (Tryd.func6.symm.trans hfn)).symm
  refine ⟨by kernel_rfl, fun j t ht => ?_⟩
  rw [Tryd.params6] at ht
  have hm := Array.mem_of_getElem? ht
  simp at hm
  subst hm
  exact (show Tryd.prog.wantsStandIn 9 = false by kernel_rfl)

theorem card : Rows.SumBitsCardSaid :=
  Claim7.holds_tied_plain_at .later [] _ _ _ _ said (fun _ h => by cases h) (by kernel_rfl) (fun _ h => by cases h) sumBits_row_tie rfl ⟨rfl, rfl⟩ (by kernel_rfl) rfl plain (by kernel_rfl)
end Go.Proofs.YtefofhejaafgnaaDoor.sumBits
