/- Package sum's Seal and Open, and strings.Clone. Plain facts: four bytes beside one another, turned, turn the checksum. No program. -/
import Derived.Test.YtiknfifiglooeaaDoorSumAdd
import Derived.Lib.Walk
import Derived.Lib.BufferWrite
import Derived.Lib.BufferRead
import Derived.Lib.UnsafeStr
import Derived.Laws.IdiomStrings
import Derived.Deep.RegionWith
import Derived.Deep.DeepCutAuto
namespace Go.Proofs.YtiknfifiglooeaaDoor
section
open Go.RowKit
set_option linter.unusedVariables false
set_option maxRecDepth 100000

/-- A checksum as four bytes, the lowest first. -/
def bytesN (r : Nat) : List UInt8 := [UInt8.ofNat r, UInt8.ofNat (r / 256), UInt8.ofNat (r / 65536), UInt8.ofNat (r / 16777216)]
def sealN (l : List UInt8) : List UInt8 := bytesN (addN 0 l) ++ l
theorem bytesN_length (r : Nat) : (bytesN r).length = 4 := rfl

theorem four_cells (r : Nat) (hr : r < 4294967296) : (cellsOf (bytesN r)).toArray = #[Value.int IntKind.u8 ((r : Int) % 256), Value.int IntKind.u8 ((r : Int) / 256 % 256), Value.int IntKind.u8 ((r : Int) / 65536 % 256), Value.int IntKind.u8 ((r : Int) / 16777216)] := by
  simp [cellsOf, bytesN]
  omega

set_option maxHeartbeats 400000 in
theorem bytes_any (r : Nat) (w : World) (hr : r < 4294967296) :
    Calls Tryd.prog 119 #[.int .u32 r] w fun e w' => e = .returned (.string ⟨(bytesN r).toArray⟩) ∧ Below w.heap.size w w' := by
  have hst := run_str (src_new w (bytesN r) 4)
  rw [four_cells r hr, bytesN_length] at hst
  have hbe := (Below.refl w.heap.size w).alloc (Nat.le_refl _) (.cells #[Value.int IntKind.u8 ((r : Int) % 256), Value.int IntKind.u8 ((r : Int) / 256 % 256), Value.int IntKind.u8 ((r : Int) / 65536 % 256), Value.int IntKind.u8 ((r : Int) / 16777216)] 5)
  generalize ByteArray.mk (bytesN r).toArray = s at *
  go_enter Tryd.func119, Tryd.ntmps119
  go_wp2_with fail
  go_ret
  exact ⟨rfl, hbe⟩

set_option maxHeartbeats 400000 in
theorem seal_any (s : ByteArray) (w : World) (ht : Tabs w) (hs : s.size ≤ 281474976710656) :
    Calls Tryd.prog 124 #[.string s] w fun e w' => e = .returned (.string ⟨(sealN s.data.toList).toArray⟩) ∧ Below w.heap.size w w' := by
  have H := Lib.hid (of_one s w w.heap.size rfl ht (by unfold maxLen; omega))
  have hr := addN_lt 0 s.data.toList (by omega)
  have HS := Lib.hid (show ByteArray.mk (bytesN (addN 0 s.data.toList)).toArray ++ s = ⟨(sealN s.data.toList).toArray⟩ by apply ByteArray.ext; simp [sealN])
  have h4 : (ByteArray.mk (bytesN (addN 0 s.data.toList)).toArray).size ≤ 4 := by rw [size_mk, bytesN_length]; exact Nat.le_refl _
  have HB := Lib.hid (fun (W : World) => bytes_any (addN 0 s.data.toList) W hr)
  generalize ByteArray.mk (bytesN (addN 0 s.data.toList)).toArray = y at *
  generalize addN 0 s.data.toList = r at *
  obtain ⟨V, hV⟩ : ∃ V, V = ByteArray.mk (sealN s.data.toList).toArray := ⟨_, rfl⟩
  rw [← hV] at HS ⊢
  clear hV
  go_enter Tryd.func124, Tryd.ntmps124
  go_wp2_with fail
  refine H.out.mono ?_
  rintro e w1 ⟨rfl, hb⟩
  go_wp2_with fail
  refine (HB.out _).mono ?_
  rintro e w2 ⟨rfl, hb2⟩
  go_wp2_with fail
  go_ret
  exact ⟨by rw [← HS.out]; rfl, hb.trans (hb2.mono hb.size)⟩

theorem open_short (t : ByteArray) (w : World) (h : t.size < 4) :
    Calls Tryd.prog 104 #[.string t] w fun e w' => e = .returned (.tuple #[.string ⟨#[]⟩, .bool false]) ∧ Below w.heap.size w w' := by
  have hd : decide ((t.size : Int) < 4) = true := by simp; omega
  go_enter Tryd.func104, Tryd.ntmps104
  go_wp2_with fail
  go_ret2
  exact ⟨rfl, Below.refl _ _⟩

set_option maxHeartbeats 1000000 in
theorem open_any (t : ByteArray) (w : World) (h : 4 ≤ t.size) (ht : Tabs w) (hs : t.size ≤ 140737488355328) (B : Bool)
    (hB : B = (bytesN (addN 0 (t.data.toList.drop 4)) == t.data.toList.take 4)) :
    Calls Tryd.prog 104 #[.string t] w fun e w' => e = .returned (.tuple #[.string (if B = true then ⟨(t.data.toList.drop 4).toArray⟩ else ⟨#[]⟩), .bool B]) ∧ Below w.heap.size w w' := by
  have hd : decide ((t.size : Int) < 4) = false := by simp; omega
  obtain ⟨x, hx⟩ : ∃ x, x = t.extract 4 t.size := ⟨_, rfl⟩
  have hxd : x.data.toList = t.data.toList.drop 4 := by
    rw [hx, Lib.extract_data, List.take_of_length_le (by rw [List.length_drop, ← Lib.size_eq]; exact Nat.le_refl _)]
  have hxx : x = ⟨(t.data.toList.drop 4).toArray⟩ := by rw [← hxd]
  have hxs : x.size ≤ 140737488355328 := by rw [hx]; simp; omega
  have H := Lib.hid (fun (W : World) (N : Nat) (hN : N = W.heap.size) (hT : Tabs W) => of_one x W N hN hT (by unfold maxLen; omega))
  rw [hxd] at H
  have hr := addN_lt 0 (t.data.toList.drop 4) (by omega)
  have HB := Lib.hid (fun (W : World) => bytes_any (addN 0 (t.data.toList.drop 4)) W hr)
  have hcmp : ((ByteArray.mk (bytesN (addN 0 (t.data.toList.drop 4))).toArray).toList == (t.extract 0 4).toList) = B := by
    rw [ByteArray.toList_eq, ByteArray.toList_eq, Lib.extract_data, hB]
    simp
  rw [← hxx]
  generalize ByteArray.mk (bytesN (addN 0 (t.data.toList.drop 4))).toArray = y at *
  generalize addN 0 (t.data.toList.drop 4) = r at *
  have HX := Lib.hid hx
  have HT := Lib.hid ht
  clear hxd hxx hB ht hx
  cases B with
  | true =>
    simp only [if_true]
    go_enter Tryd.func104, Tryd.ntmps104
    go_upto_region 4 with fail
    rw [← HX.out]
    go_cut [16] (fun z wx => z = .bool false ∧ Below w.heap.size w wx)
    case first =>
      go_region_with (first
        | (go_at_call 31; refine (H.out w.drew w.heap.size rfl (HT.out.below (Below.refl _ w).drew)).mono ?_; rintro e w1 ⟨rfl, hb⟩)
        | (go_at_call 119; refine (HB.out _).mono ?_; rintro e w2 ⟨rfl, hb2⟩))
      all_goals (go_wp2_with fail; go_meet; exact ⟨rfl, ((Below.refl _ w).drew.trans hb).trans (hb2.mono ((Below.refl _ w).drew.trans hb).size)⟩)
    case rest =>
      obtain ⟨rfl, hb⟩ := hcut
      go_wp2_with fail
      refine (clone_any x _ (by omega)).mono ?_
      rintro e w3 ⟨rfl, hb3⟩
      go_wp2_with fail
      go_ret2
      exact ⟨rfl, hb.trans (hb3.mono hb.size)⟩
  | false =>
    simp only [Bool.false_eq_true, if_false]
    go_enter Tryd.func104, Tryd.ntmps104
    go_upto_region 4 with fail
    rw [← HX.out]
    go_cut [16] (fun z wx => z = .bool true ∧ Below w.heap.size w wx)
    case first =>
      go_region_with (first
        | (go_at_call 31; refine (H.out w.drew w.heap.size rfl (HT.out.below (Below.refl _ w).drew)).mono ?_; rintro e w1 ⟨rfl, hb⟩)
        | (go_at_call 119; refine (HB.out _).mono ?_; rintro e w2 ⟨rfl, hb2⟩))
      all_goals (go_wp2_with fail; go_meet; exact ⟨rfl, ((Below.refl _ w).drew.trans hb).trans (hb2.mono ((Below.refl _ w).drew.trans hb).size)⟩)
    case rest =>
      obtain ⟨rfl, hb⟩ := hcut
      go_wp2_with fail
      go_ret2
      exact ⟨rfl, hb⟩
end
section
set_option linter.unusedVariables false

theorem xor_shift {e d f : Nat} (h : e ^^^ d = f) : e = f ^^^ d := by
  have := congrArg (fun z => z ^^^ d) h
  simpa [Nat.xor_assoc] using this
theorem step_diff (r r' c d : Nat) (hc : c < 256) (hd : d < 256) : updN r (c ^^^ d) ^^^ updN r' c = advN ((r ^^^ r') ^^^ d) := by
  rw [← upd_lin r r' (c ^^^ d) c (xor_lt8 _ _ hc hd) hc, show (c ^^^ d) ^^^ c = d by rw [Nat.xor_comm c d, Nat.xor_assoc, Nat.xor_self, Nat.xor_zero], upd_adv _ _ hd]
theorem burst_nil (r c0 c1 c2 c3 d0 d1 d2 d3 : Nat) (hr : r < 4294967296) (a0 : c0 < 256) (a1 : c1 < 256) (a2 : c2 < 256) (a3 : c3 < 256) (b0 : d0 < 256) (b1 : d1 < 256) (b2 : d2 < 256) (b3 : d3 < 256)
    (h : updN (updN (updN (updN r (c0 ^^^ d0)) (c1 ^^^ d1)) (c2 ^^^ d2)) (c3 ^^^ d3) = updN (updN (updN (updN r c0) c1) c2) c3) : d0 = 0 ∧ d1 = 0 ∧ d2 = 0 ∧ d3 = 0 := by
  have s0 := step_diff r r c0 d0 a0 b0
  rw [Nat.xor_self, Nat.zero_xor] at s0
  have s1 := step_diff (updN r (c0 ^^^ d0)) (updN r c0) c1 d1 a1 b1
  rw [s0] at s1
  have s2 := step_diff (updN (updN r (c0 ^^^ d0)) (c1 ^^^ d1)) (updN (updN r c0) c1) c2 d2 a2 b2
  rw [s1] at s2
  have s3 := step_diff (updN (updN (updN r (c0 ^^^ d0)) (c1 ^^^ d1)) (c2 ^^^ d2)) (updN (updN (updN r c0) c1) c2) c3 d3 a3 b3
  rw [s2, h, Nat.xor_self] at s3
  have l0 := adv_lt d0 (by omega)
  have l1 := adv_lt (advN d0 ^^^ d1) (xor_lt32 _ _ l0 (by omega))
  have l2 := adv_lt (advN (advN d0 ^^^ d1) ^^^ d2) (xor_lt32 _ _ l1 (by omega))
  have t3 := adv_small _ (xor_lt32 _ _ l2 (show d3 < 4294967296 by omega)) (by rw [← s3]; omega)
  rw [← s3] at t3
  have e3 := xor_eq_zero (show advN (advN (advN d0 ^^^ d1) ^^^ d2) ^^^ d3 = 0 by omega)
  have t2 := adv_small _ (xor_lt32 _ _ l1 (show d2 < 4294967296 by omega)) (by rw [e3]; omega)
  rw [e3] at t2
  have e2 := xor_shift t2
  have m2 : 256 * d3 ^^^ d2 < 65536 := Nat.xor_lt_two_pow (n := 16) (by omega) (by omega)
  have t1 := adv_small _ (xor_lt32 _ _ l0 (show d1 < 4294967296 by omega)) (by rw [e2]; omega)
  rw [e2] at t1
  have e1 := xor_shift t1
  have m1 : 256 * (256 * d3 ^^^ d2) ^^^ d1 < 16777216 := Nat.xor_lt_two_pow (n := 24) (by omega) (by omega)
  have t0 := adv_small d0 (by omega) (by rw [e1]; exact m1)
  rw [e1] at t0
  have z1 : 256 * (256 * d3 ^^^ d2) ^^^ d1 = 0 := by omega
  have z1' := xor_eq_zero z1
  have z2 : 256 * d3 ^^^ d2 = 0 := by omega
  have z2' := xor_eq_zero z2
  exact ⟨by omega, by omega, by omega, by omega⟩
theorem bytesN_inj (r r' : Nat) (hr : r < 4294967296) (hr' : r' < 4294967296) (h : bytesN r = bytesN r') : r = r' := by
  unfold bytesN at h
  simp only [List.cons.injEq, and_true, ← UInt8.toNat_inj, UInt8.toNat_ofNat'] at h
  omega
/-- Four bytes of the text turned: another checksum. -/
theorem add_burst (A B : List UInt8) (c0 c1 c2 c3 e0 e1 e2 e3 : UInt8) (d0 d1 d2 d3 : Nat) (b0 : d0 < 256) (b1 : d1 < 256) (b2 : d2 < 256) (b3 : d3 < 256)
    (h0 : e0.toNat = c0.toNat ^^^ d0) (h1 : e1.toNat = c1.toNat ^^^ d1) (h2 : e2.toNat = c2.toNat ^^^ d2) (h3 : e3.toNat = c3.toNat ^^^ d3) (hn : ¬ (d0 = 0 ∧ d1 = 0 ∧ d2 = 0 ∧ d3 = 0)) :
    addN 0 (A ++ [e0, e1, e2, e3] ++ B) ≠ addN 0 (A ++ [c0, c1, c2, c3] ++ B) := by
  intro h
  have h' := not_inj h
  rw [updsN_append, updsN_append, updsN_append, updsN_append] at h'
  have hA := updsN_lt (notN 0) A (notN_lt 0 (by omega))
  have h4 := upds_inj B _ _ (updsN_lt _ _ hA) (updsN_lt _ _ hA) h'
  generalize updsN (notN 0) A = r at *
  unfold updsN at h4
  simp only [List.foldl_cons, List.foldl_nil, h0, h1, h2, h3] at h4
  exact hn (burst_nil r _ _ _ _ _ _ _ _ hA c0.toNat_lt c1.toNat_lt c2.toNat_lt c3.toNat_lt b0 b1 b2 b3 h4)
/-- What does not open: four bytes of the sum, or of the text, turned. -/
def opensN (t : List UInt8) : Bool := bytesN (addN 0 (t.drop 4)) == t.take 4
theorem opens_seal (l : List UInt8) : opensN (sealN l) = true := by
  unfold opensN sealN
  rw [List.drop_left' (bytesN_length _), List.take_left' (bytesN_length _)]
  exact beq_self_eq_true _
/-- The list with its bytes from place p on turned, the first k of four. -/
def turnL (L : List UInt8) (p tn : Nat) : Nat → List UInt8
  | 0 => L
  | k + 1 => (turnL L p tn k).set (p + k) (UInt8.ofNat (((turnL L p tn k).getD (p + k) 0).toNat ^^^ (tn / 2 ^ (8 * k) % 256)))
theorem turnL_length (L : List UInt8) (p tn k : Nat) : (turnL L p tn k).length = L.length := by
  induction k with
  | zero => rfl
  | succ k ih => rw [turnL, List.length_set, ih]
def flip8 (c : UInt8) (d : Nat) : UInt8 := UInt8.ofNat (c.toNat ^^^ d)
theorem flip8_nat (c : UInt8) (d : Nat) (hd : d < 256) : (flip8 c d).toNat = c.toNat ^^^ d := by
  unfold flip8
  rw [UInt8.toNat_ofNat']
  exact Nat.mod_eq_of_lt (xor_lt8 _ _ c.toNat_lt hd)
theorem turnL_four (A B : List UInt8) (c0 c1 c2 c3 : UInt8) (p tn : Nat) (hp : A.length = p) :
    turnL (A ++ [c0, c1, c2, c3] ++ B) p tn 4 = A ++ [flip8 c0 (tn % 256), flip8 c1 (tn / 256 % 256), flip8 c2 (tn / 65536 % 256), flip8 c3 (tn / 16777216 % 256)] ++ B := by
  subst hp
  simp [turnL, flip8, List.append_assoc]
theorem not_all (tn : Nat) (h : tn ≠ 0) (h2 : tn < 4294967296) : ¬ (tn % 256 = 0 ∧ tn / 256 % 256 = 0 ∧ tn / 65536 % 256 = 0 ∧ tn / 16777216 % 256 = 0) := by omega
theorem split4 (l : List UInt8) (q : Nat) (h : q + 4 ≤ l.length) : ∃ c0 c1 c2 c3, l = l.take q ++ [c0, c1, c2, c3] ++ l.drop (q + 4) := by
  have h1 := List.take_append_drop q l
  have h2 : (l.drop q).length = l.length - q := List.length_drop
  match hd : l.drop q with
  | [] => rw [hd] at h2; simp at h2; omega
  | [_] => rw [hd] at h2; simp at h2; omega
  | [_, _] => rw [hd] at h2; simp at h2; omega
  | [_, _, _] => rw [hd] at h2; simp at h2; omega
  | c0 :: c1 :: c2 :: c3 :: r =>
    refine ⟨c0, c1, c2, c3, ?_⟩
    have h3 : l.drop (q + 4) = r := by rw [← List.drop_drop, hd]; rfl
    rw [h3, List.append_assoc]
    rw [hd] at h1
    exact h1.symm
theorem opens_turned_sum (l : List UInt8) (tn : Nat) (h : tn ≠ 0) (h2 : tn < 4294967296) : opensN (turnL (sealN l) 0 tn 4) = false := by
  obtain ⟨c0, c1, c2, c3, hb⟩ : ∃ c0 c1 c2 c3, bytesN (addN 0 l) = [c0, c1, c2, c3] := ⟨_, _, _, _, rfl⟩
  have e : sealN l = [] ++ [c0, c1, c2, c3] ++ l := by unfold sealN; rw [hb]; rfl
  rw [e, turnL_four [] l c0 c1 c2 c3 0 tn rfl]
  unfold opensN
  rw [Bool.eq_false_iff]
  intro hh
  rw [beq_iff_eq] at hh
  simp only [List.nil_append] at hh
  simp only [List.cons_append, List.nil_append, List.drop_succ_cons, List.drop_zero, List.take_succ_cons, List.take_zero] at hh
  rw [hb] at hh
  simp only [List.cons.injEq, and_true] at hh
  obtain ⟨g0, g1, g2, g3⟩ := hh
  refine not_all tn h h2 ⟨?_, ?_, ?_, ?_⟩
  · have := congrArg UInt8.toNat g0
    rw [flip8_nat _ _ (by omega)] at this
    exact (xor_cancel_left (a := c0.toNat) (b := 0) (by rw [Nat.xor_zero]; exact this)).symm
  · have := congrArg UInt8.toNat g1
    rw [flip8_nat _ _ (by omega)] at this
    exact (xor_cancel_left (a := c1.toNat) (b := 0) (by rw [Nat.xor_zero]; exact this)).symm
  · have := congrArg UInt8.toNat g2
    rw [flip8_nat _ _ (by omega)] at this
    exact (xor_cancel_left (a := c2.toNat) (b := 0) (by rw [Nat.xor_zero]; exact this)).symm
  · have := congrArg UInt8.toNat g3
    rw [flip8_nat _ _ (by omega)] at this
    exact (xor_cancel_left (a := c3.toNat) (b := 0) (by rw [Nat.xor_zero]; exact this)).symm
theorem opens_turned_text (l : List UInt8) (q tn : Nat) (hq : q + 4 ≤ l.length) (h : tn ≠ 0) (h2 : tn < 4294967296) : opensN (turnL (sealN l) (4 + q) tn 4) = false := by
  obtain ⟨c0, c1, c2, c3, hl⟩ := split4 l q hq
  obtain ⟨A, hA⟩ : ∃ A, A = l.take q := ⟨_, rfl⟩
  obtain ⟨B, hB⟩ : ∃ B, B = l.drop (q + 4) := ⟨_, rfl⟩
  have hAl : A.length = q := by rw [hA, List.length_take]; omega
  rw [← hA, ← hB] at hl
  have e : sealN l = (bytesN (addN 0 l) ++ A) ++ [c0, c1, c2, c3] ++ B := by unfold sealN; rw (occs := .pos [2]) [hl]; simp
  have hR := addN_lt 0 l (by omega)
  rw [e, turnL_four _ B c0 c1 c2 c3 (4 + q) tn (by rw [List.length_append, bytesN_length, hAl])]
  unfold opensN
  rw [Bool.eq_false_iff]
  intro hh
  rw [beq_iff_eq, List.append_assoc, List.append_assoc, List.drop_left' (bytesN_length _), List.take_left' (bytesN_length _)] at hh
  have h5 := bytesN_inj _ _ (addN_lt 0 _ (by omega)) hR hh
  rw [← List.append_assoc] at h5
  rw [hl] at h5
  exact add_burst A B c0 c1 c2 c3 _ _ _ _ _ _ _ _ (by omega) (by omega) (by omega) (by omega) (flip8_nat c0 (tn % 256) (by omega)) (flip8_nat c1 (tn / 256 % 256) (by omega)) (flip8_nat c2 (tn / 65536 % 256) (by omega)) (flip8_nat c3 (tn / 16777216 % 256) (by omega)) (not_all tn h h2) h5
end
end Go.Proofs.YtiknfifiglooeaaDoor
