/- The statements' own 'lay': parts as bytes. -/
import Derived.Test.YtefofhejaafgnaaPithMath2
namespace Go.Proofs.Ytefofhejaafgnaa
open Go.RowKit
set_option linter.unusedVariables false

/-- A part. -/
structure Pt where
  k : Int
  n : Int
  s : ByteArray
def pt0 : Pt := ⟨0, 0, ByteArray.empty⟩
/-- A part's bytes. -/
def layE (p : Pt) : List UInt8 := if kindN p.k = 0 then numE p.n else if kindN p.k = 1 then textE p.s.data.toList else flagE (decide (p.n % 2 = 1))
def laysE (ps : List Pt) : List UInt8 := ps.flatMap layE
theorem layE_length (p : Pt) : (layE p).length ≤ 65537 := by
  unfold layE
  split
  · rw [numE_length]; omega
  · split
    · exact textE_length _
    · simp [flagE]
theorem laysE_length (ps : List Pt) : (laysE ps).length ≤ 65537 * ps.length := by
  induction ps with
  | nil => exact Nat.le_refl 0
  | cons z zs ih => rw [laysE, List.flatMap_cons, List.length_append, List.length_cons]; have := layE_length z; unfold laysE at ih; omega
theorem laysE_snoc (ps : List Pt) (k : Nat) (h : k < ps.length) : laysE (ps.take (k + 1)) = laysE (ps.take k) ++ layE (ps.getD k pt0) := by
  rw [take_snoc_getD ps pt0 k h, laysE, List.flatMap_append]; simp [laysE]
/-- The parts lie in memory from that place on, each in three cells. -/
def PsAt (w : World) (b off : Nat) (ps : List Pt) : Prop := ∀ j, j < ps.length →
  (w.cell? ⟨b, off + j * 3, none⟩ = some (.int .i64 (ps.getD j pt0).k) ∧ w.cell? ⟨b, off + j * 3 + 1, none⟩ = some (.int .i64 (ps.getD j pt0).n) ∧ w.cell? ⟨b, off + j * 3 + 2, none⟩ = some (.string (ps.getD j pt0).s)) ∧
  (-9223372036854775808 ≤ (ps.getD j pt0).n ∧ (ps.getD j pt0).n ≤ 9223372036854775807) ∧ (ps.getD j pt0).s.size ≤ 65535

theorem i64_and255 (n : Int) : bits .and .i64 n 255 = n % 256 := by
  have h127 : (BitVec.ofInt 64 255).toNat = 2 ^ 8 - 1 := by decide
  have key : (BitVec.ofInt 64 n &&& BitVec.ofInt 64 255).toNat = (n % ((2 ^ 64 : Nat) : Int)).toNat % 2 ^ 8 := by
    rw [BitVec.toNat_and, BitVec.toNat_ofInt, h127, Nat.and_two_pow_sub_one_eq_mod]
  show IntKind.i64.wrap ((BitVec.ofInt 64 n &&& BitVec.ofInt 64 255).toNat : Nat) = n % 256
  rw [key, IntKind.wrap_i64]
  omega
theorem i64_and1 (n : Int) : bits .and .i64 n 1 = n % 2 := by
  have h127 : (BitVec.ofInt 64 1).toNat = 2 ^ 1 - 1 := by decide
  have key : (BitVec.ofInt 64 n &&& BitVec.ofInt 64 1).toNat = (n % ((2 ^ 64 : Nat) : Int)).toNat % 2 ^ 1 := by
    rw [BitVec.toNat_and, BitVec.toNat_ofInt, h127, Nat.and_two_pow_sub_one_eq_mod]
  show IntKind.i64.wrap ((BitVec.ofInt 64 n &&& BitVec.ofInt 64 1).toNat : Nat) = n % 2
  rw [key, IntKind.wrap_i64]
  omega
/-- 'string' of a slice of one byte that has just been made. -/
theorem run_str_one (W : World) (q : Nat) :
    (convert 24 9 (.slice (some ⟨W.heap.size, 0, none⟩) 1 1)).run Try.prog (W.alloc (.cells #[.int .u8 ((q : Int) % 256)] 5)) = .ok (.string ⟨#[UInt8.ofNat q]⟩) (W.alloc (.cells #[.int .u8 ((q : Int) % 256)] 5)) := by
  have h : Src (W.alloc (.cells #[.int .u8 ((q : Int) % 256)] 5)) (.slice (some ⟨W.heap.size, 0, none⟩) 1 1) [UInt8.ofNat q] := by
    refine ⟨_, 1, rfl, .inr ⟨_, rfl, fun j x hx => ?_⟩⟩
    match j, hx with
    | 0, hx =>
      simp [cellsOf] at hx
      subst hx
      simp [Addr.add]
  exact run_str h
theorem run_str_two (W : World) (N n : Nat) (hN : N = W.heap.size) (hn : n ≤ 65535) :
    (convert 24 9 (.slice (some ⟨N, 0, none⟩) 2 2)).run Try.prog (W.alloc (.cells #[.int .u8 ((n : Int) / 256), .int .u8 ((n : Int) % 256)] 5)) = .ok (.string ⟨(be 2 n).toArray⟩) (W.alloc (.cells #[.int .u8 ((n : Int) / 256), .int .u8 ((n : Int) % 256)] 5)) := by
  subst hN
  have hb : be 2 n = [UInt8.ofNat (n / 256), UInt8.ofNat n] := by
    rw [be_succ, be_succ, be_zero]; simp
  have h : Src (W.alloc (.cells #[.int .u8 ((n : Int) / 256), .int .u8 ((n : Int) % 256)] 5)) (.slice (some ⟨W.heap.size, 0, none⟩) 2 2) [UInt8.ofNat (n / 256), UInt8.ofNat n] := by
    refine ⟨_, 2, rfl, .inr ⟨_, rfl, fun j x hx => ?_⟩⟩
    match j, hx with
    | 0, hx =>
      simp [cellsOf] at hx
      subst hx
      simp [Addr.add]
      omega
    | 1, hx =>
      simp [cellsOf] at hx
      subst hx
      simp [Addr.add]
  rw [hb]
  exact run_str h
theorem run_str_flag (W : World) (N : Nat) (n : Int) (hN : N = W.heap.size) :
    (convert 24 9 (.slice (some ⟨N, 0, none⟩) 1 1)).run Try.prog (W.alloc (.cells #[.int .u8 (n % 2)] 5)) = .ok (.string ⟨(flagE (decide (n % 2 = 1))).toArray⟩) (W.alloc (.cells #[.int .u8 (n % 2)] 5)) := by
  subst hN
  have h : Src (W.alloc (.cells #[.int .u8 (n % 2)] 5)) (.slice (some ⟨W.heap.size, 0, none⟩) 1 1) (flagE (decide (n % 2 = 1))) := by
    refine ⟨_, 1, rfl, .inr ⟨_, rfl, fun j x hx => ?_⟩⟩
    match j, hx with
    | 0, hx =>
      simp [cellsOf, flagE] at hx
      subst hx
      simp [Addr.add]
      by_cases h : n % 2 = 1
      · rw [if_pos h, h]; rfl
      · rw [if_neg h, show n % 2 = 0 by omega]; rfl
  exact run_str h
theorem cat_one (c : UInt8) (l : List UInt8) : ByteArray.mk #[c] ++ ByteArray.mk l.toArray = ⟨(c :: l).toArray⟩ := by
  apply ByteArray.ext
  simp

set_option maxHeartbeats 1000000 in
theorem lay_some (b off cap : Nat) (ps : List Pt) (w : World) (hb : b < w.heap.size) (hp : PsAt w b off ps) (hlen : ps.length ≤ 1000) :
    Calls Try.prog 15 #[.slice (some ⟨b, off, none⟩) ps.length cap] w fun e w' => e = .returned (.string ⟨(laysE ps).toArray⟩) ∧ Below w.heap.size w w' := by
  obtain ⟨S, hS⟩ : ∃ S, S = (ByteArray.mk (laysE ps).toArray) := ⟨_, rfl⟩
  rw [← hS]
  have HS := Lib.hid hS
  have HP := Lib.hid hp
  clear hS hp
  go_enter Try.func15, Try.ntmps15
  go_wp2_with fail
  go_loopw [3, 11] (fun x i wr => ∃ k : Nat, k ≤ ps.length ∧ i = .int .i64 k ∧ x = .string ⟨(laysE (ps.take k)).toArray⟩ ∧ Below w.heap.size w wr) (fun _ i _ => ps.length - (intOf i).toNat)
  case atStart => exact ⟨0, Nat.zero_le _, rfl, rfl, Below.refl _ _⟩
  case round =>
    obtain ⟨k, hk, rfl, rfl, hbw⟩ := hrel
    by_cases hlt : k < ps.length
    · obtain ⟨⟨c0, c1, c2⟩, ⟨b0, b1⟩, b2⟩ := HP.out k hlt
      rw [← hbw.cell (p := ⟨b, off + k * 3, none⟩) (by assumption)] at c0
      rw [← hbw.cell (p := ⟨b, off + k * 3 + 1, none⟩) (by assumption)] at c1
      rw [← hbw.cell (p := ⟨b, off + k * 3 + 2, none⟩) (by assumption)] at c2
      have HES := Lib.hid (laysE_snoc ps k hlt)
      generalize ps.getD k pt0 = p at *
      obtain ⟨pk, pn, s⟩ := p
      simp only at c0 c1 c2 b0 b1 b2
      have ho : (ByteArray.mk (laysE (ps.take k)).toArray).size ≤ 65537000 := by
        rw [size_mk]
        have := laysE_length (ps.take k)
        rw [List.length_take] at this
        omega
      have HO := Lib.hid (show ∀ q : List UInt8, ByteArray.mk (laysE (ps.take k)).toArray ++ ByteArray.mk q.toArray = ⟨(laysE (ps.take k) ++ q).toArray⟩ by intro q; apply ByteArray.ext; simp)
      generalize hob : ByteArray.mk (laysE (ps.take k)).toArray = o at *
      have HOB := Lib.hid hob
      clear hob
      have hand := i64_and255
      by_cases hk0 : kindN pk = 0
      · have HK := Lib.hid (show (0 : Int) = kindN pk by rw [hk0]; rfl)
        obtain ⟨N, hN⟩ := Int.eq_ofNat_of_zero_le (show 0 ≤ min (max pn 0) 281474976710655 by omega)
        have hN2 : N < 2 ^ 48 := by omega
        have HLE := Lib.hid (show layE ⟨pk, pn, s⟩ = be 6 N by unfold layE; rw [if_pos hk0]; unfold numE; rw [hN]; rfl)
        clear hk0
        go_wp2_with (go_at_call 11; refine (kind_any pk pn s 0 HK.out _).mono ?_; rintro e w' ⟨rfl, rfl⟩)
        have hsz := hbw.size
        have hb2 : Below w.heap.size w ((wr.alloc (.cells #[.int .i64 pk, .int .i64 pn, .string s] 26)).alloc (.cells #[.int .i64 pk, .int .i64 pn, .string s] 26)) := (hbw.alloc hsz _).alloc (by simp; omega) _
        go_loopw [6, 7, 8] (fun x y i wi => ∃ (j q : Nat) (z : ByteArray), j ≤ 6 ∧ q < 2 ^ 48 ∧ z.size ≤ 6 ∧ i = .int .i64 j ∧ x = .int .i64 (q : Int) ∧ y = .string z ∧ Hid (q = N / 256 ^ j ∧ z = ⟨(be j N).toArray⟩) ∧ Below w.heap.size w wi) (fun _ _ i _ => 6 - (intOf i).toNat)
        case atStart => exact ⟨0, N, ⟨#[]⟩, by omega, hN2, by decide, rfl, rfl, rfl, ⟨by simp, rfl⟩, hb2⟩
        case round =>
          obtain ⟨j, q, z, hj, hq, hz, rfl, rfl, rfl, HJ, hbi⟩ := hrel
          by_cases hlt2 : j < 6
          · have HJ2 : Hid (q / 256 = N / 256 ^ (j + 1) ∧ ByteArray.mk #[UInt8.ofNat q] ++ z = ⟨(be (j + 1) N).toArray⟩) := by
              obtain ⟨h1, h2⟩ := HJ.out
              exact ⟨by rw [h1, Nat.pow_succ, ← Nat.div_div_eq_div_mul], by rw [h1, h2, cat_one, be_succ]⟩
            have hst1 := run_str_one wr q
            have hsi := hbi.size
            have hzs : (ByteArray.mk #[UInt8.ofNat q] ++ z).size ≤ j + 1 := by rw [HJ2.out.2, size_mk, be_length]; omega
            have HZS := Lib.hid hzs
            clear hzs
            go_wp2_with fail
            go_roundw
            case rel => exact ⟨j + 1, q / 256, ByteArray.mk #[UInt8.ofNat q] ++ z, by omega, by omega, by have := HZS.out; omega, by go_num, by go_num, rfl, HJ2, hbi.alloc hsi _⟩
            case measure => simp [intOf]; omega
          · have hj6 : j = 6 := by omega
            subst hj6
            have HAP : Hid (o ++ z = ⟨(laysE (ps.take (k + 1))).toArray⟩) := by
              show o ++ z = _
              rw [HJ.out.2, HO.out, HES.out, HLE.out]
            go_wp2_with fail
            go_roundw
            case rel => exact ⟨k + 1, by omega, by go_num, by rw [HAP.out], hbi⟩
            case measure => simp [intOf]; omega
      · by_cases hk1 : kindN pk = 1
        · have HK := Lib.hid (show (1 : Int) = kindN pk by rw [hk1]; rfl)
          have HLE := Lib.hid (show layE ⟨pk, pn, s⟩ = textE s.data.toList by unfold layE; rw [if_neg hk0, if_pos hk1])
          clear hk0 hk1
          have HAP : Hid (o ++ ByteArray.mk (be 2 s.size).toArray ++ s = ⟨(laysE (ps.take (k + 1))).toArray⟩) := by
            show o ++ ByteArray.mk (be 2 s.size).toArray ++ s = _
            rw [HES.out, HLE.out, textE_short _ (by rw [← Lib.size_eq]; exact b2), ← Lib.size_eq, ← HO.out]
            apply ByteArray.ext
            simp [← HOB.out]
          have hb22 : (ByteArray.mk (be 2 s.size).toArray).size ≤ 2 := by rw [size_mk, be_length]; exact Nat.le_refl _
          have hst2 := run_str_two ((wr.alloc (.cells #[.int .i64 pk, .int .i64 pn, .string s] 26)).alloc (.cells #[.int .i64 pk, .int .i64 pn, .string s] 26)) (wr.heap.size + 1 + 1) s.size (by simp) b2
          generalize ByteArray.mk (be 2 s.size).toArray = z at *
          have hsz := hbw.size
          have hbe := ((hbw.alloc hsz (.cells #[.int .i64 pk, .int .i64 pn, .string s] 26)).alloc (by simp; omega) (.cells #[.int .i64 pk, .int .i64 pn, .string s] 26)).alloc (by simp; omega) (.cells #[.int .u8 ((s.size : Int) / 256), .int .u8 ((s.size : Int) % 256)] 5)
          go_wp2_with (go_at_call 11; refine (kind_any pk pn s 1 HK.out _).mono ?_; rintro e w' ⟨rfl, rfl⟩)
          go_roundw
          case rel => exact ⟨k + 1, by omega, by go_num, by rw [HAP.out], hbe⟩
          case measure => simp [intOf]; omega
        · have hk2 : kindN pk = 2 := by have := kindN_lt pk; omega
          have HK := Lib.hid (show (2 : Int) = kindN pk by rw [hk2]; rfl)
          have HLE := Lib.hid (show layE ⟨pk, pn, s⟩ = flagE (decide (pn % 2 = 1)) by unfold layE; rw [if_neg hk0, if_neg hk1])
          have hand1 := i64_and1
          clear hk0 hk1 hk2
          have HAP : Hid (o ++ ByteArray.mk (flagE (decide (pn % 2 = 1))).toArray = ⟨(laysE (ps.take (k + 1))).toArray⟩) := by
            show o ++ ByteArray.mk (flagE (decide (pn % 2 = 1))).toArray = _
            rw [HES.out, HLE.out, ← HO.out]
          have hb22 : (ByteArray.mk (flagE (decide (pn % 2 = 1))).toArray).size ≤ 2 := by simp [size_mk, flagE]
          have hst2 := run_str_flag ((wr.alloc (.cells #[.int .i64 pk, .int .i64 pn, .string s] 26)).alloc (.cells #[.int .i64 pk, .int .i64 pn, .string s] 26)) (wr.heap.size + 1 + 1) pn (by simp)
          generalize ByteArray.mk (flagE (decide (pn % 2 = 1))).toArray = z at *
          have hsz := hbw.size
          have hbe := ((hbw.alloc hsz (.cells #[.int .i64 pk, .int .i64 pn, .string s] 26)).alloc (by simp; omega) (.cells #[.int .i64 pk, .int .i64 pn, .string s] 26)).alloc (by simp; omega) (.cells #[.int .u8 (pn % 2)] 5)
          go_wp2_with (go_at_call 11; refine (kind_any pk pn s 2 HK.out _).mono ?_; rintro e w' ⟨rfl, rfl⟩)
          go_roundw
          case rel => exact ⟨k + 1, by omega, by go_num, by rw [HAP.out], hbe⟩
          case measure => simp [intOf]; omega
    · have hkk : ps.take k = ps := List.take_of_length_le (by omega)
      rw [hkk, ← HS.out]
      go_wp2_with fail
      go_ret
      exact ⟨rfl, hbw⟩
theorem lay_none (p : Option Addr) (cap : Nat) (w : World) :
    Calls Try.prog 15 #[.slice p 0 cap] w fun e w' => e = .returned (.string ⟨#[]⟩) ∧ w = w' := by
  go_enter Try.func15, Try.ntmps15
  go_wp2_with fail
  refine wp_loop_rounds 1 ?_
  rw [rounds_succ]
  go_wp2_with fail
  go_ret
  exact ⟨rfl, rfl⟩

/-- One part. -/
theorem lay_one (k n : Int) (s : ByteArray) (w : World) (hn : -9223372036854775808 ≤ n ∧ n ≤ 9223372036854775807) (hs : s.size ≤ 65535) :
    Calls Try.prog 15 #[.slice (some ⟨w.heap.size, 0, none⟩) 1 1] (w.alloc (.cells #[.int .i64 k, .int .i64 n, .string s] 26)) fun e w' =>
      e = .returned (.string ⟨(layE ⟨k, n, s⟩).toArray⟩) ∧ Below w.heap.size w w' := by
  have h0 := (Below.refl w.heap.size w).alloc (Nat.le_refl _) (.cells #[.int .i64 k, .int .i64 n, .string s] 26)
  refine (lay_some w.heap.size 0 1 [⟨k, n, s⟩] (w.alloc (.cells #[.int .i64 k, .int .i64 n, .string s] 26)) (by simp) ?_ (by simp)).mono ?_
  · intro j hj
    match j, hj with
    | 0, _ => exact ⟨by simp [World.cell?_alloc_at], hn, hs⟩
  · rintro e w' ⟨he, hb⟩
    refine ⟨?_, h0.trans (hb.mono (by simp))⟩
    rw [he]
    simp [laysE]

theorem lay_one_at (k n : Int) (s : ByteArray) (w : World) (N : Nat) (hN : N = w.heap.size) (hn : -9223372036854775808 ≤ n ∧ n ≤ 9223372036854775807) (hs : s.size ≤ 65535) :
    Calls Try.prog 15 #[.slice (some ⟨N, 0, none⟩) 1 1] (w.alloc (.cells #[.int .i64 k, .int .i64 n, .string s] 26)) fun e w' =>
      e = .returned (.string ⟨(layE ⟨k, n, s⟩).toArray⟩) ∧ Below w.heap.size w w' := by
  subst hN
  exact lay_one k n s w hn hs
theorem num_one_at (v : Value) (l : List UInt8) (z : Int) (w : World) (N : Nat) (hN : N = w.heap.size) (h : Src w v l) (hl : l.length + 6 ≤ 140737488355328)
    (hz : -9223372036854775808 ≤ z ∧ z ≤ 9223372036854775807) :
    Calls Try.prog 12 #[v, .slice (some ⟨N, 0, none⟩) 1 1] (w.alloc (.cells #[.int .i64 z] 3)) fun e w' => ∃ v', e = .returned v' ∧ Bs w' w.heap.size v' (l ++ numE z) ∧ Below w.heap.size w w' := by
  subst hN
  exact num_one v l z w h hl hz
theorem text_one_at (v : Value) (l : List UInt8) (z : ByteArray) (w : World) (N : Nat) (hN : N = w.heap.size) (h : Src w v l) (hl : l.length + 65537 ≤ 140737488355328) (hz : z.size ≤ maxLen) :
    Calls Try.prog 13 #[v, .slice (some ⟨N, 0, none⟩) 1 1] (w.alloc (.cells #[.string z] 9)) fun e w' => ∃ v', e = .returned v' ∧ Bs w' w.heap.size v' (l ++ textE z.data.toList) ∧ Below w.heap.size w w' := by
  subst hN
  exact text_one v l z w h hl hz
theorem flag_one_at (v : Value) (l : List UInt8) (z : Bool) (w : World) (N : Nat) (hN : N = w.heap.size) (h : Src w v l) (hl : l.length + 1 ≤ 140737488355328) :
    Calls Try.prog 14 #[v, .slice (some ⟨N, 0, none⟩) 1 1] (w.alloc (.cells #[.bool z] 4)) fun e w' => ∃ v', e = .returned v' ∧ Bs w' w.heap.size v' (l ++ flagE z) ∧ Below w.heap.size w w' := by
  subst hN
  exact flag_one v l z w h hl
theorem num_fail (b : Nat) (most : Int) (w : World) (h : Rs w b none) :
    Calls Try.prog 20 #[.pointer (some ⟨b, 0, none⟩), .int .i64 most] w fun e w' => e = .returned (.int .i64 0) ∧ Rs w' b none ∧ w.grownBy w' (some b) := num_rs b most none w h
theorem text_fail (b : Nat) (most : Int) (w : World) (h : Rs w b none) :
    Calls Try.prog 21 #[.pointer (some ⟨b, 0, none⟩), .int .i64 most] w fun e w' => e = .returned (.string ⟨#[]⟩) ∧ Rs w' b none ∧ w.grownBy w' (some b) := text_rs b most none w h
theorem flag_fail (b : Nat) (w : World) (h : Rs w b none) :
    Calls Try.prog 22 #[.pointer (some ⟨b, 0, none⟩)] w fun e w' => e = .returned (.bool false) ∧ Rs w' b none ∧ w.grownBy w' (some b) := flag_rs b none w h
theorem kindN_kindN (z : Int) : kindN (kindN z) = kindN z := by
  have := kindN_lt z
  generalize kindN z = m at *
  match m, this with
  | 0, _ => rfl
  | 1, _ => rfl
  | 2, _ => rfl
theorem numE_in (n : Int) (h0 : 0 ≤ n) (h1 : n ≤ 281474976710655) : numE n = be 6 n.toNat := by
  unfold numE
  rw [show min (max n 0) 281474976710655 = n by omega]
/-- Where a part was read it stands, in its one form. -/
theorem readF_some {z n : Int} {m l l' : List UInt8} (h : readF (kindN z) (some l) = ((n, m), some l')) :
    l = layE ⟨kindN z, n, ⟨m.toArray⟩⟩ ++ l' ∧ (0 ≤ n ∧ n ≤ 281474976710655) ∧ m.length ≤ 1000 := by
  have hz := kindN_lt z
  have hzz := kindN_kindN z
  unfold readF at h
  unfold layE
  simp only [hzz]
  by_cases h0 : kindN z = 0
  · rw [if_pos h0] at h ⊢
    cases hq : numF 6 281474976710655 (some l) with
    | mk v st =>
      rw [hq] at h
      simp only [Prod.mk.injEq] at h
      obtain ⟨⟨rfl, rfl⟩, rfl⟩ := h
      obtain ⟨g0, g1, g2, g3⟩ := numF_some hq
      exact ⟨by rw [numE_in _ g0 g1]; exact g3, ⟨g0, g1⟩, by simp⟩
  · rw [if_neg h0] at h ⊢
    by_cases h1 : kindN z = 1
    · rw [if_pos h1] at h ⊢
      cases hq : textF 1000 (some l) with
      | mk v st =>
        rw [hq] at h
        simp only [Prod.mk.injEq] at h
        obtain ⟨⟨rfl, rfl⟩, rfl⟩ := h
        obtain ⟨g0, g1, g2⟩ := textF_some hq
        exact ⟨by simpa using g2, by omega, by omega⟩
    · rw [if_neg h1] at h ⊢
      cases hq : flagF (some l) with
      | mk v st =>
        rw [hq] at h
        simp only [Prod.mk.injEq] at h
        obtain ⟨⟨rfl, rfl⟩, rfl⟩ := h
        have g := flagF_some hq
        refine ⟨?_, by split <;> omega, by simp⟩
        rw [g]
        cases v <;> rfl
/-- What was laid is read. -/
theorem readF_E (p : Pt) (l : List UInt8) (hs : p.s.data.toList.length ≤ 1000) :
    readF (kindN p.k) (some (layE p ++ l)) = ((if kindN p.k = 0 then min (max p.n 0) 281474976710655 else if kindN p.k = 1 then 0 else p.n % 2, if kindN p.k = 1 then p.s.data.toList else []), some l) := by
  unfold readF layE
  by_cases h0 : kindN p.k = 0
  · simp only [h0, if_true]
    unfold numE
    rw [numF_be 6 _ _ l (by omega), if_pos (by omega)]
    simp
    omega
  · by_cases h1 : kindN p.k = 1
    · simp only [if_neg h0, if_pos h1]
      rw [textF_E _ _ _ (by omega), if_pos (by omega)]
    · simp only [h0, h1, if_false]
      rw [flagF_E]
      simp
      by_cases hp : p.n % 2 = 1
      · rw [if_pos hp, hp]
      · rw [if_neg hp]; omega
end Go.Proofs.Ytefofhejaafgnaa
