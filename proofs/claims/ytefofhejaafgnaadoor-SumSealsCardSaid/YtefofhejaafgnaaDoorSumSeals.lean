/- SumSeals: what is sealed (of a text of at most 300 bytes) is opened again; a piece of the sum, and a seal with four bytes beside one another turned, is not; no condition on the input (the two tables start as the program's text lays them). -/
import Derived.Test.YtefofhejaafgnaaDoorSumBurst
import Derived.Test.YtefofhejaafgnaaDoorCards
import Derived.Test.YtefofhejaafgnaaDoorTie
import Derived.ProofKit
import Derived.OpenShut
import Derived.ShutString
import Derived.ChangeOld
import Derived.Deep.DeepHandedRow
import Derived.Lib.LaidTab
import Derived.Stop.LaidErr
namespace Go.Proofs.YtefofhejaafgnaaDoor.sumSeals
open Go.ChangeShapes Go.WideShapes Go.ChangeAt Go.RowKit
open Go.ChangeMaps (open_string shut_string)
set_option linter.unusedVariables false

theorem i64_and65535 (n : Int) : bits .and .i64 n 65535 = n % 65536 := by
  have h127 : (BitVec.ofInt 64 65535).toNat = 2 ^ 16 - 1 := by decide
  have key : (BitVec.ofInt 64 n &&& BitVec.ofInt 64 65535).toNat = (n % ((2 ^ 64 : Nat) : Int)).toNat % 2 ^ 16 := by
    rw [BitVec.toNat_and, BitVec.toNat_ofInt, h127, Nat.and_two_pow_sub_one_eq_mod]
  show IntKind.i64.wrap ((BitVec.ofInt 64 n &&& BitVec.ofInt 64 65535).toNat : Nat) = n % 65536
  rw [key, IntKind.wrap_i64]
  omega
theorem i64_and255 (n : Int) : bits .and .i64 n 255 = n % 256 := by
  have h127 : (BitVec.ofInt 64 255).toNat = 2 ^ 8 - 1 := by decide
  have key : (BitVec.ofInt 64 n &&& BitVec.ofInt 64 255).toNat = (n % ((2 ^ 64 : Nat) : Int)).toNat % 2 ^ 8 := by
    rw [BitVec.toNat_and, BitVec.toNat_ofInt, h127, Nat.and_two_pow_sub_one_eq_mod]
  show IntKind.i64.wrap ((BitVec.ofInt 64 n &&& BitVec.ofInt 64 255).toNat : Nat) = n % 256
  rw [key, IntKind.wrap_i64]
  omega

set_option maxHeartbeats 1000000 in
theorem walk_long (a0 : ByteArray) (x1 x2 : Int) (w : World) (w0 : a0.size ≤ maxLen) (h1 : 300 < a0.size) (hT : Tabs w) :
    Calls Tryd.prog 5 #[.string a0, .int .i64 x1, .int .u32 x2] w fun e w' => e = .returned (.bool true) ∧ Below w.heap.size w w' := by
  unfold maxLen at w0
  have HT := Lib.hid hT
  clear hT
  have hd : decide ((300 : Int) < (a0.size : Int)) = true := by simp; omega
  go_enter Tryd.func5, Tryd.ntmps5
  go_wp2_with (go_at_call 8; refine (head_any _ HT.out).mono ?_; rintro e w1 ⟨rfl, hb⟩)
  go_ret
  exact ⟨rfl, hb⟩

/-- The row of the bytes. -/
def RowIs (w : World) (g M : Nat) (L : List UInt8) (Z : List Value) : Prop := w.heap[g]? = some (.cells (cellsOf L ++ Z).toArray 5 (M, M + 1))
theorem RowIs.cell {w : World} {g M : Nat} {L : List UInt8} {Z : List Value} (h : RowIs w g M L Z) (i : Nat) (hi : i < L.length) : w.cell? ⟨g, i, none⟩ = some (.int .u8 ((L.getD i 0).toNat : Int)) := by
  unfold RowIs at h
  simp [World.cell?, h, cellsOf, List.getElem?_append, hi]
theorem RowIs.free {w : World} {g M : Nat} {L : List UInt8} {Z : List Value} (h : RowIs w g M L Z) (i : Nat) (hi : i < M) : w.frozen? ⟨g, i, none⟩ = false := by
  unfold RowIs at h
  simp [World.frozen?, h]
  omega
theorem RowIs.set {w : World} {g M : Nat} {L : List UInt8} {Z : List Value} (h : RowIs w g M L Z) (i : Nat) (hi : i < L.length) (c : UInt8) : RowIs (w.setCell ⟨g, i, none⟩ (.int .u8 (c.toNat : Int))) g M (L.set i c) Z := by
  have hlt := lt_of_block h
  have h2 : w.heap[g]? = some (.cells (cellsOf L ++ Z).toArray 5 (M, M + 1)) := h
  have h' : w.heap[g] = .cells (cellsOf L ++ Z).toArray 5 (M, M + 1) := by simpa [Array.getElem?_eq_getElem hlt] using h2
  show (w.heap.modify g _)[g]? = _
  rw [Array.getElem?_eq_getElem (by simpa using hlt), Array.getElem_modify_self, h']
  have e : (cellsOf L ++ Z).toArray.setIfInBounds i (.int .u8 (c.toNat : Int)) = (cellsOf (L.set i c) ++ Z).toArray := by
    rw [List.setIfInBounds_toArray, List.set_append_left _ _ (by rw [cellsOf_length]; exact hi)]
    unfold cellsOf
    rw [List.map_set]
  simp [e]
theorem RowIs.src {w : World} {g M : Nat} {L : List UInt8} {Z : List Value} (h : RowIs w g M L Z) (c : Nat) : Src w (.slice (some ⟨g, 0, none⟩) L.length c) L := by
  refine ⟨_, c, rfl, .inr ⟨_, rfl, fun j x hx => ?_⟩⟩
  have hj : j < L.length := by
    have := (List.getElem?_eq_some_iff.1 hx).1
    rwa [cellsOf_length] at this
  rw [show (Addr.add ⟨g, 0, none⟩ j : Addr) = ⟨g, j, none⟩ by simp [Addr.add]; omega]
  unfold RowIs at h
  simp only [World.cell?, h]
  rw [← hx]
  simp [List.getElem?_append, cellsOf_length, hj]
theorem RowIs.below {w w' : World} {g M : Nat} {L : List UInt8} {Z : List Value} (h : RowIs w g M L Z) (k : Below w.heap.size w w') : RowIs w' g M L Z := (k.block g (lt_of_block h)).trans h

set_option maxRecDepth 100000 in
set_option maxHeartbeats 1000000 in
theorem walk_short0 (a0 : ByteArray) (x1 x2 : Int) (w : World) (h1 : a0.size ≤ 300) (hx0 : x2 = 0)
    (T : ByteArray) (hTs : T.size = a0.size + 4) (HS : Hid (∀ W : World, Tabs W → Calls Tryd.prog 12 #[.string a0] W fun e w' => e = .returned (.string T) ∧ Below W.heap.size W w'))
    (HO : Hid (∀ W : World, Tabs W → Calls Tryd.prog 13 #[.string T] W fun e w' => e = .returned (.tuple #[.string a0, .bool true]) ∧ Below W.heap.size W w')) (hT : Tabs w) :
    Calls Tryd.prog 5 #[.string a0, .int .i64 x1, .int .u32 x2] w fun e w' => e = .returned (.bool true) ∧ Below w.heap.size w w' := by
  have hd : decide ((300 : Int) < (a0.size : Int)) = false := by simp; omega
  have hl1 : ((T.size : Int) != (a0.size : Int) + 4) = false := by rw [bne_eq_false_iff_eq]; omega
  have hl2 : ((T.size : Int) == (a0.size : Int) + 4) = true := by rw [beq_iff_eq]; omega
  have hT4 : 4 ≤ T.size := by omega
  have hTb : T.size ≤ 304 := by omega
  have HTS := Lib.hid hTs
  have HT := Lib.hid hT
  clear hT hTs
  subst hx0
  have hand := i64_and255
  obtain ⟨q, hq⟩ := Int.eq_ofNat_of_zero_le (Int.emod_nonneg (x1 % 256) (show (4 : Int) ≠ 0 by omega))
  have hq4 : q < 4 := by omega
  have hm0 : 0 ≤ x1 % 256 := Int.emod_nonneg _ (by omega)
  have hm1 : x1 % 256 < 256 := Int.emod_lt_of_pos _ (by omega)
  have hsz : (T.extract 0 q).size < 4 := by simp; omega
  have HSH := Lib.hid (fun (W : World) => open_short (T.extract 0 q) W hsz)
  clear hsz
  go_enter Tryd.func5, Tryd.ntmps5
  go_wp2_with fail
  refine (head_any _ HT.out).mono ?_
  rintro e w1 ⟨rfl, hb1⟩
  go_wp2_with fail
  refine (HS.out _ (HT.out.below hb1)).mono ?_
  rintro e w2 ⟨rfl, hb2'⟩
  have hb2 := hb1.trans (hb2'.mono hb1.size)
  clear hb1 hb2'
  go_wp2_with fail
  refine (HO.out _ (HT.out.below hb2)).mono ?_
  rintro e w3 ⟨rfl, hb3'⟩
  have hb3 := hb2.trans (hb3'.mono hb2.size)
  clear hb2 hb3'
  go_wp2_with fail
  refine (HSH.out _).mono ?_
  rintro e w4 ⟨rfl, hb4⟩
  go_wp2_with fail
  go_ret
  exact ⟨rfl, hb3.trans (hb4.mono hb3.size)⟩

set_option maxRecDepth 100000 in
set_option maxHeartbeats 1000000 in
theorem walk_short4 (a0 : ByteArray) (x1 x2 : Int) (w : World) (h1 : a0.size ≤ 300) (hx0 : x2 ≠ 0) (h4 : a0.size < 4)
    (T : ByteArray) (hTs : T.size = a0.size + 4) (HS : Hid (∀ W : World, Tabs W → Calls Tryd.prog 12 #[.string a0] W fun e w' => e = .returned (.string T) ∧ Below W.heap.size W w'))
    (HO : Hid (∀ W : World, Tabs W → Calls Tryd.prog 13 #[.string T] W fun e w' => e = .returned (.tuple #[.string a0, .bool true]) ∧ Below W.heap.size W w')) (hT : Tabs w) :
    Calls Tryd.prog 5 #[.string a0, .int .i64 x1, .int .u32 x2] w fun e w' => e = .returned (.bool true) ∧ Below w.heap.size w w' := by
  have hd : decide ((300 : Int) < (a0.size : Int)) = false := by simp; omega
  have hl1 : ((T.size : Int) != (a0.size : Int) + 4) = false := by rw [bne_eq_false_iff_eq]; omega
  have hl2 : ((T.size : Int) == (a0.size : Int) + 4) = true := by rw [beq_iff_eq]; omega
  have hT4 : 4 ≤ T.size := by omega
  have hTb : T.size ≤ 304 := by omega
  have HTS := Lib.hid hTs
  have HT := Lib.hid hT
  clear hT hTs
  have ht0 : (x2 == 0) = false := by rw [beq_eq_false_iff_ne]; exact hx0
  have hd4 : decide ((a0.size : Int) < 4) = true := by simp; omega
  have hand := i64_and255
  obtain ⟨q, hq⟩ := Int.eq_ofNat_of_zero_le (Int.emod_nonneg (x1 % 256) (show (4 : Int) ≠ 0 by omega))
  have hq4 : q < 4 := by omega
  have hm0 : 0 ≤ x1 % 256 := Int.emod_nonneg _ (by omega)
  have hm1 : x1 % 256 < 256 := Int.emod_lt_of_pos _ (by omega)
  have hsz : (T.extract 0 q).size < 4 := by simp; omega
  have HSH := Lib.hid (fun (W : World) => open_short (T.extract 0 q) W hsz)
  clear hsz
  go_enter Tryd.func5, Tryd.ntmps5
  go_wp2_with fail
  refine (head_any _ HT.out).mono ?_
  rintro e w1 ⟨rfl, hb1⟩
  go_wp2_with fail
  refine (HS.out _ (HT.out.below hb1)).mono ?_
  rintro e w2 ⟨rfl, hb2'⟩
  have hb2 := hb1.trans (hb2'.mono hb1.size)
  clear hb1 hb2'
  go_wp2_with fail
  refine (HO.out _ (HT.out.below hb2)).mono ?_
  rintro e w3 ⟨rfl, hb3'⟩
  have hb3 := hb2.trans (hb3'.mono hb2.size)
  clear hb2 hb3'
  go_wp2_with fail
  refine (HSH.out _).mono ?_
  rintro e w4 ⟨rfl, hb4⟩
  go_wp2_with fail
  go_ret
  exact ⟨rfl, hb3.trans (hb4.mono hb3.size)⟩

set_option maxRecDepth 100000 in
set_option maxHeartbeats 4000000 in
theorem walk_main (a0 T : ByteArray) (x1 : Int) (tn p : Nat) (w : World) (h1 : a0.size ≤ 300) (h4 : 4 ≤ a0.size) (htn : tn ≠ 0) (htn2 : tn < 4294967296) (A0 : Nat) (hA0 : x1 % 65536 % ((a0.size : Int) + 1) = (A0 : Int))
    (hp : (A0 = 0 ∧ p = 0) ∨ (0 < A0 ∧ p = 4 + A0 % 65536 % (a0.size - 3)))
    (hfin : opensN (turnL (sealN a0.data.toList) p tn 4) = false) (hTd : T.data.toList = sealN a0.data.toList)
    (hTs : T.size = a0.size + 4) (HS : Hid (∀ W : World, Tabs W → Calls Tryd.prog 12 #[.string a0] W fun e w' => e = .returned (.string T) ∧ Below W.heap.size W w'))
    (HO : Hid (∀ W : World, Tabs W → Calls Tryd.prog 13 #[.string T] W fun e w' => e = .returned (.tuple #[.string a0, .bool true]) ∧ Below W.heap.size W w')) (hT : Tabs w) :
    Calls Tryd.prog 5 #[.string a0, .int .i64 x1, .int .u32 (tn : Int)] w fun e w' => e = .returned (.bool true) ∧ Below w.heap.size w w' := by
  have hpT : p + 4 ≤ T.size := by
    rcases hp with ⟨_, h⟩ | ⟨_, h⟩
    · omega
    · have := Nat.mod_lt (A0 % 65536) (show 0 < a0.size - 3 by omega)
      omega
  have hd : decide ((300 : Int) < (a0.size : Int)) = false := by simp; omega
  have hl1 : ((T.size : Int) != (a0.size : Int) + 4) = false := by rw [bne_eq_false_iff_eq]; omega
  have hl2 : ((T.size : Int) == (a0.size : Int) + 4) = true := by rw [beq_iff_eq]; omega
  have hT4 : 4 ≤ T.size := by omega
  have hTb : T.size ≤ 304 := by omega
  have HTS := Lib.hid hTs
  have HT := Lib.hid hT
  clear hT hTs
  have ht0 : ((tn : Int) == 0) = false := by rw [beq_eq_false_iff_ne]; omega
  have hd4 : decide ((a0.size : Int) < 4) = false := by simp; omega
  have hand := i64_and65535
  have hm0 : 0 ≤ x1 % 65536 := Int.emod_nonneg _ (by omega)
  have hm1 : x1 % 65536 < 65536 := Int.emod_lt_of_pos _ (by omega)
  have hLl : T.data.toList.length = T.size := (Lib.size_eq T).symm
  have HLL := Lib.hid hLl
  have HTD := Lib.hid hTd
  have HFIN := Lib.hid hfin
  have HPT := Lib.hid hpT
  have HP := Lib.hid hp
  clear hLl hTd hfin hp
  rcases HP.out with ⟨hz, hp0⟩ | ⟨hz, hp0⟩
  · have hpA : p = A0 := by omega
    subst hpA
    have hA2 : p ≤ 0 := by omega
    clear hp0 hz HP
    go_enter Tryd.func5, Tryd.ntmps5
    go_wp2_with fail
    refine (head_any _ HT.out).mono ?_
    rintro e w1 ⟨rfl, hb1⟩
    go_wp2_with fail
    refine (HS.out _ (HT.out.below hb1)).mono ?_
    rintro e w2 ⟨rfl, hb2'⟩
    have hb2 := hb1.trans (hb2'.mono hb1.size)
    clear hb1 hb2'
    go_wp2_with fail
    refine (HO.out _ (HT.out.below hb2)).mono ?_
    rintro e w3 ⟨rfl, hb3'⟩
    have hb3 := hb2.trans (hb3'.mono hb2.size)
    clear hb2 hb3'
    obtain ⟨cap, hcap⟩ : ∃ cap, cap = grownCap w3 T.size 0 5 := ⟨_, rfl⟩
    have hcap2 : T.size ≤ cap := by rw [hcap]; exact grownCap_ge w3 T.size 0 5
    have hcb := run_bytes_of_string (P := Tryd.prog) w3 9 34 5 T und_string und_bytes und_u8
    rw [← hcap] at hcb
    obtain ⟨Z, hZ⟩ : ∃ Z : List Value, Z = List.replicate (cap - T.size) (.int .u8 0) := ⟨_, rfl⟩
    have hrow : bytesRow T cap = (cellsOf T.data.toList ++ Z).toArray := by
      unfold bytesRow cellsOf
      rw [hZ]
      apply Array.toList_inj.1
      simp
    have hsize : (bytesRow T cap).size = cap := by unfold bytesRow; simp; omega
    rw [hsize, hrow] at hcb
    have hr0 : RowIs (w3.drew.alloc (.cells (cellsOf T.data.toList ++ Z).toArray 5 (cap, cap + 1))) w3.heap.size cap T.data.toList Z := heap_alloc_new w3.drew _
    have hb4 := hb3.drew.alloc hb3.size (.cells (cellsOf T.data.toList ++ Z).toArray 5 (cap, cap + 1))
    have hg := hb3.size
    clear hrow hsize hZ hcap hb3
    generalize hW4 : w3.drew.alloc (.cells (cellsOf T.data.toList ++ Z).toArray 5 (cap, cap + 1)) = w4 at *
    have HW4 := Lib.hid hW4
    clear hW4
    generalize w3.heap.size = g at *
    go_wp2_with fail
    go_loopw [13] (fun i wr => ∃ k : Nat, k ≤ 4 ∧ i = .int .i64 k ∧ RowIs wr g cap (turnL T.data.toList p tn k) Z ∧ Below w.heap.size w wr) (fun i _ => 4 - (intOf i).toNat)
    case atStart => exact ⟨0, by omega, rfl, hr0, hb4⟩
    case round =>
      obtain ⟨k, hk, rfl, hrow, hbw⟩ := hrel
      clear hr0 hb4
      by_cases hlt : k < 4
      · have hlen : p + k < (turnL T.data.toList p tn k).length := by rw [turnL_length, HLL.out]; have := HPT.out; omega
        have hkT : p + k < T.size := by have := HPT.out; omega
        have hcell := hrow.cell (p + k) hlen
        have hfree := hrow.free (p + k) (by omega)
        have hset := hrow.set (p + k) hlen (UInt8.ofNat (((turnL T.data.toList p tn k).getD (p + k) 0).toNat ^^^ (tn / 2 ^ (8 * k) % 256)))
        have hx := flip8_nat ((turnL T.data.toList p tn k).getD (p + k) 0) (tn / 2 ^ (8 * k) % 256) (by omega)
        unfold flip8 at hx
        rw [hx] at hset
        have hx8 := u8_xor_nat ((turnL T.data.toList p tn k).getD (p + k) 0).toNat (tn / 2 ^ (8 * k) % 256) (UInt8.toNat_lt _) (by omega)
        have hcst : ((tn / 2 ^ (8 * k) % 256 : Nat) : Int) = (tn : Int) / 2 ^ (8 * k) % 256 := by simp
        rw [hcst] at hx8
        clear hcst
        have HSET : Hid (RowIs (wr.setCell ⟨g, p + k, none⟩ (.int .u8 ((((turnL T.data.toList p tn k).getD (p + k) 0).toNat ^^^ (tn / 2 ^ (8 * k) % 256) : Nat) : Int))) g cap (turnL T.data.toList p tn (k + 1)) Z) := hset
        clear hx hset hrow
        have HX8 := Lib.hid hx8
        clear hx8
        generalize (turnL T.data.toList p tn k).getD (p + k) 0 = c at *
        have hbs := hbw.setCell (p := ⟨g, p + k, none⟩) hg (.int .u8 (((c.toNat ^^^ (tn / 2 ^ (8 * k) % 256) : Nat)) : Int))
        go_wp2_with fail
        rw [HX8.out]
        go_roundw
        case rel => exact ⟨k + 1, by omega, by go_num, HSET.out, hbs⟩
        case measure => simp [intOf]; omega
      · have hk4 : k = 4 := by omega
        subst hk4
        have hlf : (turnL T.data.toList p tn 4).length = T.size := by rw [turnL_length, HLL.out]
        have hstr := run_str (hrow.src cap)
        rw [hlf] at hstr
        obtain ⟨Q, hQ⟩ : ∃ Q, Q = ByteArray.mk (turnL T.data.toList p tn 4).toArray := ⟨_, rfl⟩
        have hQs : Q.size = T.size := by rw [hQ, size_mk, hlf]
        have hQb : false = (bytesN (addN 0 (Q.data.toList.drop 4)) == Q.data.toList.take 4) := by
          have h := HFIN.out
          rw [← HTD.out] at h
          unfold opensN at h
          rw [hQ]
          exact h.symm
        have HOQ := Lib.hid (open_any Q wr (by omega) (HT.out.below hbw) (by omega) false hQb)
        rw [← hQ] at hstr
        clear hQ hQb hlf hrow hQs
        go_wp2_with fail
        refine HOQ.out.mono ?_
        rintro e w9 ⟨rfl, hb9⟩
        go_wp2_with fail
        go_ret
        exact ⟨rfl, hbw.trans (hb9.mono hbw.size)⟩
  · have hA1 : ¬ (A0 : Int) ≤ 0 := by omega
    have hA3 : A0 ≤ 300 := by have := Int.emod_lt_of_pos (x1 % 65536) (show (0 : Int) < (a0.size : Int) + 1 by omega); omega
    have hp1 : (4 : Int) + (A0 : Int) % 65536 % ((a0.size : Int) - 3) = (p : Int) := by
      rw [hp0]
      rw [show (a0.size : Int) - 3 = ((a0.size - 3 : Nat) : Int) by omega]
      simp
    clear hp0 HP hA1
    go_enter Tryd.func5, Tryd.ntmps5
    go_wp2_with fail
    refine (head_any _ HT.out).mono ?_
    rintro e w1 ⟨rfl, hb1⟩
    go_wp2_with fail
    refine (HS.out _ (HT.out.below hb1)).mono ?_
    rintro e w2 ⟨rfl, hb2'⟩
    have hb2 := hb1.trans (hb2'.mono hb1.size)
    clear hb1 hb2'
    go_wp2_with fail
    refine (HO.out _ (HT.out.below hb2)).mono ?_
    rintro e w3 ⟨rfl, hb3'⟩
    have hb3 := hb2.trans (hb3'.mono hb2.size)
    clear hb2 hb3'
    obtain ⟨cap, hcap⟩ : ∃ cap, cap = grownCap w3 T.size 0 5 := ⟨_, rfl⟩
    have hcap2 : T.size ≤ cap := by rw [hcap]; exact grownCap_ge w3 T.size 0 5
    have hcb := run_bytes_of_string (P := Tryd.prog) w3 9 34 5 T und_string und_bytes und_u8
    rw [← hcap] at hcb
    obtain ⟨Z, hZ⟩ : ∃ Z : List Value, Z = List.replicate (cap - T.size) (.int .u8 0) := ⟨_, rfl⟩
    have hrow : bytesRow T cap = (cellsOf T.data.toList ++ Z).toArray := by
      unfold bytesRow cellsOf
      rw [hZ]
      apply Array.toList_inj.1
      simp
    have hsize : (bytesRow T cap).size = cap := by unfold bytesRow; simp; omega
    rw [hsize, hrow] at hcb
    have hr0 : RowIs (w3.drew.alloc (.cells (cellsOf T.data.toList ++ Z).toArray 5 (cap, cap + 1))) w3.heap.size cap T.data.toList Z := heap_alloc_new w3.drew _
    have hb4 := hb3.drew.alloc hb3.size (.cells (cellsOf T.data.toList ++ Z).toArray 5 (cap, cap + 1))
    have hg := hb3.size
    clear hrow hsize hZ hcap hb3
    generalize hW4 : w3.drew.alloc (.cells (cellsOf T.data.toList ++ Z).toArray 5 (cap, cap + 1)) = w4 at *
    have HW4 := Lib.hid hW4
    clear hW4
    generalize w3.heap.size = g at *
    go_wp2_with fail
    go_loopw [13] (fun i wr => ∃ k : Nat, k ≤ 4 ∧ i = .int .i64 k ∧ RowIs wr g cap (turnL T.data.toList p tn k) Z ∧ Below w.heap.size w wr) (fun i _ => 4 - (intOf i).toNat)
    case atStart => exact ⟨0, by omega, rfl, hr0, hb4⟩
    case round =>
      obtain ⟨k, hk, rfl, hrow, hbw⟩ := hrel
      clear hr0 hb4
      by_cases hlt : k < 4
      · have hlen : p + k < (turnL T.data.toList p tn k).length := by rw [turnL_length, HLL.out]; have := HPT.out; omega
        have hkT : p + k < T.size := by have := HPT.out; omega
        have hcell := hrow.cell (p + k) hlen
        have hfree := hrow.free (p + k) (by omega)
        have hset := hrow.set (p + k) hlen (UInt8.ofNat (((turnL T.data.toList p tn k).getD (p + k) 0).toNat ^^^ (tn / 2 ^ (8 * k) % 256)))
        have hx := flip8_nat ((turnL T.data.toList p tn k).getD (p + k) 0) (tn / 2 ^ (8 * k) % 256) (by omega)
        unfold flip8 at hx
        rw [hx] at hset
        have hx8 := u8_xor_nat ((turnL T.data.toList p tn k).getD (p + k) 0).toNat (tn / 2 ^ (8 * k) % 256) (UInt8.toNat_lt _) (by omega)
        have hcst : ((tn / 2 ^ (8 * k) % 256 : Nat) : Int) = (tn : Int) / 2 ^ (8 * k) % 256 := by simp
        rw [hcst] at hx8
        clear hcst
        have HSET : Hid (RowIs (wr.setCell ⟨g, p + k, none⟩ (.int .u8 ((((turnL T.data.toList p tn k).getD (p + k) 0).toNat ^^^ (tn / 2 ^ (8 * k) % 256) : Nat) : Int))) g cap (turnL T.data.toList p tn (k + 1)) Z) := hset
        clear hx hset hrow
        have HX8 := Lib.hid hx8
        clear hx8
        generalize (turnL T.data.toList p tn k).getD (p + k) 0 = c at *
        have hbs := hbw.setCell (p := ⟨g, p + k, none⟩) hg (.int .u8 (((c.toNat ^^^ (tn / 2 ^ (8 * k) % 256) : Nat)) : Int))
        go_wp2_with fail
        rw [HX8.out]
        go_roundw
        case rel => exact ⟨k + 1, by omega, by go_num, HSET.out, hbs⟩
        case measure => simp [intOf]; omega
      · have hk4 : k = 4 := by omega
        subst hk4
        have hlf : (turnL T.data.toList p tn 4).length = T.size := by rw [turnL_length, HLL.out]
        have hstr := run_str (hrow.src cap)
        rw [hlf] at hstr
        obtain ⟨Q, hQ⟩ : ∃ Q, Q = ByteArray.mk (turnL T.data.toList p tn 4).toArray := ⟨_, rfl⟩
        have hQs : Q.size = T.size := by rw [hQ, size_mk, hlf]
        have hQb : false = (bytesN (addN 0 (Q.data.toList.drop 4)) == Q.data.toList.take 4) := by
          have h := HFIN.out
          rw [← HTD.out] at h
          unfold opensN at h
          rw [hQ]
          exact h.symm
        have HOQ := Lib.hid (open_any Q wr (by omega) (HT.out.below hbw) (by omega) false hQb)
        rw [← hQ] at hstr
        clear hQ hQb hlf hrow hQs
        go_wp2_with fail
        refine HOQ.out.mono ?_
        rintro e w9 ⟨rfl, hb9⟩
        go_wp2_with fail
        go_ret
        exact ⟨rfl, hbw.trans (hb9.mono hbw.size)⟩

theorem walk (a0 : ByteArray) (x1 x2 : Int) (w : World) (w0 : a0.size ≤ maxLen) (w1 : (Lit.int .i64 x1).wf = true) (w2 : (Lit.int .u32 x2).wf = true) (hT : Tabs w) :
    Calls Tryd.prog 5 #[.string a0, .int .i64 x1, .int .u32 x2] w fun e w' => e = .returned (.bool true) ∧ Below w.heap.size w w' := by
  by_cases h1 : 300 < a0.size
  · exact walk_long a0 x1 x2 w w0 h1 hT
  · obtain ⟨T, hTT⟩ : ∃ T, T = ByteArray.mk (sealN a0.data.toList).toArray := ⟨_, rfl⟩
    have hTd : T.data.toList = sealN a0.data.toList := by rw [hTT]
    have hTs : T.size = a0.size + 4 := by
      rw [hTT, size_mk, Lib.size_eq a0]
      unfold sealN
      rw [List.length_append, bytesN_length]
      omega
    have HS : Hid (∀ W : World, Tabs W → Calls Tryd.prog 12 #[.string a0] W fun e w' => e = .returned (.string T) ∧ Below W.heap.size W w') := fun W hW => by
      rw [hTT]
      exact seal_any a0 W hW (by omega)
    have HO : Hid (∀ W : World, Tabs W → Calls Tryd.prog 13 #[.string T] W fun e w' => e = .returned (.tuple #[.string a0, .bool true]) ∧ Below W.heap.size W w') := fun W hW => by
      have hB : true = (bytesN (addN 0 (T.data.toList.drop 4)) == T.data.toList.take 4) := by rw [hTd]; exact (opens_seal a0.data.toList).symm
      have h := open_any T W (by omega) hW (by omega) true hB
      rw [if_pos rfl, hTd] at h
      rw [show (sealN a0.data.toList).drop 4 = a0.data.toList from List.drop_left' (bytesN_length _)] at h
      exact h
    by_cases hx0 : x2 = 0
    · exact walk_short0 a0 x1 x2 w (by omega) hx0 T hTs HS HO hT
    · by_cases h4 : a0.size < 4
      · exact walk_short4 a0 x1 x2 w (by omega) hx0 h4 T hTs HS HO hT
      · have b2 := bounds_u32 w2
        obtain ⟨tn, rfl⟩ := Int.eq_ofNat_of_zero_le b2.1
        obtain ⟨A0, hA0⟩ := Int.eq_ofNat_of_zero_le (Int.emod_nonneg (x1 % 65536) (show (a0.size : Int) + 1 ≠ 0 by omega))
        by_cases hz : A0 = 0
        · exact walk_main a0 T x1 tn 0 w (by omega) (by omega) (by omega) (by omega) A0 hA0 (.inl ⟨hz, rfl⟩) (opens_turned_sum _ tn (by omega) (by omega)) hTd hTs HS HO hT
        · refine walk_main a0 T x1 tn (4 + A0 % 65536 % (a0.size - 3)) w (by omega) (by omega) (by omega) (by omega) A0 hA0 (.inr ⟨by omega, rfl⟩) (opens_turned_text _ _ tn ?_ (by omega) (by omega)) hTd hTs HS HO hT
          have := Nat.mod_lt (A0 % 65536) (show 0 < a0.size - 3 by omega)
          rw [← Lib.size_eq]
          omega

theorem own : ownKnob Tryd.prog.godebug = none := by kernel_rfl
theorem laidOut : laidOutB Tryd.prog = true := by kernel_rfl
theorem gHi : Tryd.prog.globalNamed "orchard/sum.highTable" = some 0 := by kernel_rfl
theorem gLo : Tryd.prog.globalNamed "orchard/sum.lowTable" = some 1 := by kernel_rfl
theorem gHiType : (Tryd.prog.globals[0]?).map (·.type) = some 39 := by kernel_rfl
theorem gLoType : (Tryd.prog.globals[1]?).map (·.type) = some 39 := by kernel_rfl
theorem cellsTab : Tryd.prog.cellsOf 39 = 16 := by kernel_rfl
theorem cellsSum : Tryd.prog.cellsOf 24 = 1 := by kernel_rfl

theorem table_lo {W : World} (h : laidMetH Tryd.prog Rows.sumSealsRow.laid W) : Lib.TabIs Tryd.prog W "orchard/sum.lowTable" .u32 LO :=
  Lib.tabIs_of_head (rest := [("orchard/sum.highTable", Rows.laid_orchard_sum_highTable)]) gLo gLoType Tryd.underlying39 Tryd.underlying24 cellsSum cellsTab h
theorem table_hi {W : World} (h : laidMetH Tryd.prog Rows.sumSealsRow.laid W) : Lib.TabIs Tryd.prog W "orchard/sum.highTable" .u32 HI :=
  Lib.tabIs_of_head (rest := []) gHi gHiType Tryd.underlying39 Tryd.underlying24 cellsSum cellsTab (laidMet.tail (show laidMet Tryd.prog [("orchard/sum.lowTable", Rows.laid_orchard_sum_lowTable), ("orchard/sum.highTable", Rows.laid_orchard_sum_highTable)] W from h))
theorem tabs_of {W : World} (h : laidMetH Tryd.prog Rows.sumSealsRow.laid W) : Tabs W := by
  have c0 := fun (j : Nat) (hj : j < 16) => (table_hi h).cell gHi j hj
  have c1 := fun (j : Nat) (hj : j < 16) => (table_lo h).cell gLo j hj
  refine ⟨⟨World.block_lt_of_cell? W _ (c0 0 (by decide)), World.block_lt_of_cell? W _ (c1 0 (by decide))⟩, fun j hj => ?_, fun j hj => ?_⟩
  · rw [c0 j hj, hi_cast j]
  · rw [c1 j hj, lo_cast j]

theorem contract (H : Type) (enc : TypeId × Value → H) (W : World) (base : Nat) (args : Array Value) (ds gs : List (DataW H)) (before : List MemPlace)
    (hval : ∀ (j : Nat) t v, Tryd.f5.params[j]? = some t → args[j]? = some v → Value.okWide Tryd.prog W .any base t v)
    (hW : DataW.Whole enc Tryd.prog Tryd.f5.params.toList Rows.sumSealsSpec.vars false W args.toList ds gs before) (hL : laidMetH Tryd.prog Rows.sumSealsRow.laid W) :
    Calls Tryd.prog 5 args W fun e W' => ∃ v, e = .returned v ∧ Rows.sumSealsSpec.post enc Tryd.prog Tryd.f5 false true false false W args v W' := by
  have hT := tabs_of hL
  have hW' := hW
  obtain ⟨p, q, hA0, hV, rfl, hfz, hnd⟩ := hW
  have hA : DataW.TrodAll enc Tryd.prog W 0 (fun _ => true) true Tryd.f5.params.toList args.toList ds p := hA0
  rw [Tryd.params5] at hA hval
  obtain ⟨v0, vs0, d0, ds0, p0, q0, hargs, rfl, rfl, h0, r0⟩ := trodAll_cons hA
  obtain ⟨v1, vs1, d1, ds1, p1, q1, rfl, rfl, rfl, h1, r1⟩ := trodAll_cons r0
  obtain ⟨v2, vs2, d2, ds2, p2, q2, rfl, rfl, rfl, h2, r2⟩ := trodAll_cons r1
  obtain ⟨rfl, rfl, rfl⟩ := trodAll_nil r2
  obtain rfl : args = #[v0, v1, v2] := by cases args; simp_all
  obtain ⟨rfl, rfl⟩ := trodVars_none hV
  obtain ⟨a0, rfl, rfl, rfl, w0⟩ := open_string Tryd.underlying9 (hval 0 9 v0 rfl rfl) h0
  obtain ⟨a1, rfl, rfl, rfl, w1⟩ := open_int Tryd.underlying3 (hval 1 3 v1 rfl rfl) h1
  obtain ⟨a2, rfl, rfl, rfl, w2⟩ := open_int Tryd.underlying23 (hval 2 23 v2 rfl rfl) h2
  clear hA0
  refine (walk a0 a1 a2 W w0 w1 w2 hT).mono fun e W' ⟨he, bel⟩ => ?_
  subst he
  exact ⟨_, rfl, _, _, _, [], _, [], hW', trodAll_mk1 (shut_bool Tryd.underlying4 _), (trodAll_cons_mk (shut_string Tryd.underlying9 w0) (trodAll_cons_mk (shut_int Tryd.underlying3 w1) (trodAll_cons_mk (shut_int Tryd.underlying23 w2) trodAll_mk0))), rfl, bel.frame _, fun h => by cases h⟩

def setTab (l : List Int) : Obj → Obj
  | .cells _ t frozen => .cells (l.map (Value.int .u32)).toArray t frozen
  | o => o
noncomputable def laidWorld (os : Os) : World :=
  { World.holding Tryd.prog os ⟨#[], #[], []⟩ with heap := ((World.holding Tryd.prog os ⟨#[], #[], []⟩).heap.modify 1 (setTab LO)).modify 0 (setTab HI) }
theorem laid_met (os : Os) : laidMet Tryd.prog Rows.sumSealsRow.laid ((laidWorld os).forCall (fun _ _ => 0) ⟨#[], #[.string ByteArray.empty, .int .i64 0, .int .u32 0], []⟩).memory :=
  laidMet_of_run' 8 (by kernel_rfl) (by kernel_rfl)
theorem reads (os : Os) {H : Type} (enc : TypeId × Value → H) : ∃ places, DataW.whole enc Tryd.prog ((laidWorld os).forCall (fun _ _ => 0) ⟨#[], #[.string ByteArray.empty, .int .i64 0, .int .u32 0], []⟩).memory Tryd.f5.params.toList Rows.sumSealsSpec.vars false #[Value.string ByteArray.empty, Value.int .i64 0, Value.int .u32 0].toList 8 = some ([.lit (.string []), .lit (.int .i64 0), .lit (.int .u32 0)], [], places) :=
  ⟨[], by kernel_rfl⟩

set_option maxRecDepth 100000 in
theorem lifted (os : Os) (started : os.Started) (H : Type) (enc : TypeId × Value → H) (F : Stop.Interp) :
    ReturnsInHanded {} Tryd.checked os 5 .any ((OpenSpec.ofChange Rows.sumSealsSpec).preRow enc Tryd.prog Tryd.f5 Rows.sumSealsRow.domain false Rows.sumSealsRow.laid) (((OpenSpec.ofChange Rows.sumSealsSpec).at F).post enc Tryd.prog Tryd.f5 false true false false) := by
  obtain ⟨places, hx⟩ := reads os enc
  refine returnsInHanded_of_row (C := Tryd.checked) (s := OpenSpec.ofChange Rows.sumSealsSpec) own started (by kernel_rfl) Tryd.func5
    (witness_row_at (enc := enc) (C := Tryd.checked) false (laidWorld os) #[.string ByteArray.empty, .int .i64 0, .int .u32 0] rfl (by kernel_rfl) (by kernel_rfl) (by kernel_rfl)
      (OpenSpec.preRow_of_cond 8 hx (by kernel_rfl) (fun k hk => by cases hk) (by kernel_rfl) (laid_met os))) ?_
  intro W base args ds gs before hval hW _ _ _ hL _ _
  exact contract H enc W base args ds gs before hval hW hL

theorem said : Rows.SumSealsSaid :=
  OpenClaim.holds_of_cond 5 Tryd.f5 rfl rfl rfl rfl rfl rfl rfl ⟨rfl, rfl, rfl, rfl, rfl⟩ rfl rfl rfl rfl rfl (by kernel_rfl) Tryd.func5 (by kernel_rfl)
    (of_decide_eq_true (by kernel_rfl)) (by unfold Func.isWrapper; first | (rw [if_pos (by decide +kernel)]; kernel_rfl) | (rw [if_neg (by decide +kernel)]; exact ⟨rfl, rfl⟩))
    (fun os started H enc _ F => by rw [OpenClaim.pre_eq_preRow]; exact lifted os started H enc F)

theorem plain (f : FuncId) (fn : Func) (hf : Tryd.pinned.checked.prog.funcNamed "orchard/orchardlaw02.SumSeals" = some f) (hfn : Tryd.pinned.checked.prog.funcs[f]? = some fn) :
    false = Tryd.pinned.checked.prog.looks [] ∧ ∀ (j : Nat) t, fn.params[j]? = some t → Tryd.pinned.checked.prog.wantsStandIn t = false := by
  obtain rfl : f = 5 := Option.some.inj ((show Tryd.prog.funcNamed "orchard/orchardlaw02.SumSeals" = some 5 by kernel_rfl).symm.trans hf) |>.symm
  obtain rfl : fn = Tryd.f5 := (Option.some.inj (Tryd.func5.symm.trans hfn)).symm
  refine ⟨by kernel_rfl, fun j t ht => ?_⟩
  rw [Tryd.params5] at ht
  have hm := Array.mem_of_getElem? ht
  simp at hm
  rcases hm with rfl | rfl | rfl
  · exact (show Tryd.prog.wantsStandIn 9 = false by kernel_rfl)
  · exact (show Tryd.prog.wantsStandIn 3 = false by kernel_rfl)
  · exact (show Tryd.prog.wantsStandIn 23 = false by kernel_rfl)

theorem card : Rows.SumSealsCardSaid :=
  Claim7.holds_tied_plain_at .later [] _ _ _ _ said (fun _ h => by cases h) (by kernel_rfl) (fun _ h => by cases h) sumSeals_row_tie rfl ⟨rfl, rfl⟩ (by kernel_rfl) rfl plain (by kernel_rfl)
end Go.Proofs.YtefofhejaafgnaaDoor.sumSeals
