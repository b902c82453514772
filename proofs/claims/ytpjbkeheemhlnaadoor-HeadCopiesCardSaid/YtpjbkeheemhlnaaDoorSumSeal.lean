/- Package sum's Seal and Open, and strings.Clone. -/
import Derived.Test.YtpjbkeheemhlnaaDoorSumAdd
import Derived.Lib.Walk
import Derived.Lib.BufferWrite
import Derived.Lib.BufferRead
import Derived.Lib.UnsafeStr
import Derived.Laws.IdiomStrings
import Derived.Deep.RegionWith
import Derived.Deep.DeepCutAuto
namespace Go.Proofs.YtpjbkeheemhlnaaDoor
open Go.RowKit
set_option linter.unusedVariables false
set_option maxRecDepth 100000

/-- A checksum as four bytes, the lowest first. -/
def bytesN (r : Nat) : List UInt8 := [UInt8.ofNat r, UInt8.ofNat (r / 256), UInt8.ofNat (r / 65536), UInt8.ofNat (r / 16777216)]
def sealN (l : List UInt8) : List UInt8 := bytesN (addN 0 l) ++ l
theorem bytesN_length (r : Nat) : (bytesN r).length = 4 := rfl

theorem four_cells (r : Nat) (hr : r < 4294967296) : (cellsOf (bytesN r)).toArray = #[Value.int IntKind.u8 ((r : Int) % 256), Value.int IntKind.u8 ((r : Int) / 256 % 256), Value.int IntKind.u8 ((r : Int) / 65536 % 256), Value.int IntKind.u8 ((r : Int) / 16777216)] := by
  simp [cellsOf, bytesN]
  omega

set_option maxHeartbeats 400000 in
theorem bytes_any (r : Nat) (w : World) (hr : r < 4294967296) :
    Calls Tryd.prog 96 #[.int .u32 r] w fun e w' => e = .returned (.string ⟨(bytesN r).toArray⟩) ∧ Below w.heap.size w w' := by
  have hst := run_str (src_new w (bytesN r) 4)
  rw [four_cells r hr, bytesN_length] at hst
  have hbe := (Below.refl w.heap.size w).alloc (Nat.le_refl _) (.cells #[Value.int IntKind.u8 ((r : Int) % 256), Value.int IntKind.u8 ((r : Int) / 256 % 256), Value.int IntKind.u8 ((r : Int) / 65536 % 256), Value.int IntKind.u8 ((r : Int) / 16777216)] 5)
  generalize ByteArray.mk (bytesN r).toArray = s at *
  go_enter Tryd.func96, Tryd.ntmps96
  go_wp2_with fail
  go_ret
  exact ⟨rfl, hbe⟩

set_option maxHeartbeats 400000 in
theorem seal_any (s : ByteArray) (w : World) (ht : Tabs w) (hs : s.size ≤ 281474976710656) :
    Calls Tryd.prog 101 #[.string s] w fun e w' => e = .returned (.string ⟨(sealN s.data.toList).toArray⟩) ∧ Below w.heap.size w w' := by
  have H := Lib.hid (of_one s w w.heap.size rfl ht (by unfold maxLen; omega))
  have hr := addN_lt 0 s.data.toList (by omega)
  have HS := Lib.hid (show ByteArray.mk (bytesN (addN 0 s.data.toList)).toArray ++ s = ⟨(sealN s.data.toList).toArray⟩ by apply ByteArray.ext; simp [sealN])
  have h4 : (ByteArray.mk (bytesN (addN 0 s.data.toList)).toArray).size ≤ 4 := by rw [size_mk, bytesN_length]; exact Nat.le_refl _
  have HB := Lib.hid (fun (W : World) => bytes_any (addN 0 s.data.toList) W hr)
  generalize ByteArray.mk (bytesN (addN 0 s.data.toList)).toArray = y at *
  generalize addN 0 s.data.toList = r at *
  obtain ⟨V, hV⟩ : ∃ V, V = ByteArray.mk (sealN s.data.toList).toArray := ⟨_, rfl⟩
  rw [← hV] at HS ⊢
  clear hV
  go_enter Tryd.func101, Tryd.ntmps101
  go_wp2_with fail
  refine H.out.mono ?_
  rintro e w1 ⟨rfl, hb⟩
  go_wp2_with fail
  refine (HB.out _).mono ?_
  rintro e w2 ⟨rfl, hb2⟩
  go_wp2_with fail
  go_ret
  exact ⟨by rw [← HS.out]; rfl, hb.trans (hb2.mono hb.size)⟩

theorem open_short (t : ByteArray) (w : World) (h : t.size < 4) :
    Calls Tryd.prog 81 #[.string t] w fun e w' => e = .returned (.tuple #[.string ⟨#[]⟩, .bool false]) ∧ Below w.heap.size w w' := by
  have hd : decide ((t.size : Int) < 4) = true := by simp; omega
  go_enter Tryd.func81, Tryd.ntmps81
  go_wp2_with fail
  go_ret2
  exact ⟨rfl, Below.refl _ _⟩

set_option maxHeartbeats 1000000 in
theorem open_any (t : ByteArray) (w : World) (h : 4 ≤ t.size) (ht : Tabs w) (hs : t.size ≤ 140737488355328) (B : Bool)
    (hB : B = (bytesN (addN 0 (t.data.toList.drop 4)) == t.data.toList.take 4)) :
    Calls Tryd.prog 81 #[.string t] w fun e w' => e = .returned (.tuple #[.string (if B = true then ⟨(t.data.toList.drop 4).toArray⟩ else ⟨#[]⟩), .bool B]) ∧ Below w.heap.size w w' := by
  have hd : decide ((t.size : Int) < 4) = false := by simp; omega
  obtain ⟨x, hx⟩ : ∃ x, x = t.extract 4 t.size := ⟨_, rfl⟩
  have hxd : x.data.toList = t.data.toList.drop 4 := by
    rw [hx, Lib.extract_data, List.take_of_length_le (by rw [List.length_drop, ← Lib.size_eq]; exact Nat.le_refl _)]
  have hxx : x = ⟨(t.data.toList.drop 4).toArray⟩ := by rw [← hxd]
  have hxs : x.size ≤ 140737488355328 := by rw [hx]; simp; omega
  have H := Lib.hid (fun (W : World) (N : Nat) (hN : N = W.heap.size) (hT : Tabs W) => of_one x W N hN hT (by unfold maxLen; omega))
  rw [hxd] at H
  have hr := addN_lt 0 (t.data.toList.drop 4) (by omega)
  have HB := Lib.hid (fun (W : World) => bytes_any (addN 0 (t.data.toList.drop 4)) W hr)
  have hcmp : ((ByteArray.mk (bytesN (addN 0 (t.data.toList.drop 4))).toArray).toList == (t.extract 0 4).toList) = B := by
    rw [ByteArray.toList_eq, ByteArray.toList_eq, Lib.extract_data, hB]
    simp
  rw [← hxx]
  generalize ByteArray.mk (bytesN (addN 0 (t.data.toList.drop 4))).toArray = y at *
  generalize addN 0 (t.data.toList.drop 4) = r at *
  have HX := Lib.hid hx
  have HT := Lib.hid ht
  clear hxd hxx hB ht hx
  cases B with
  | true =>
    simp only [if_true]
    go_enter Tryd.func81, Tryd.ntmps81
    go_upto_region 4 with fail
    rw [← HX.out]
    go_cut [16] (fun z wx => z = .bool false ∧ Below w.heap.size w wx)
    case first =>
      go_region_with (first
        | (go_at_call 95; refine (H.out w.drew w.heap.size rfl (HT.out.below (Below.refl _ w).drew)).mono ?_; rintro e w1 ⟨rfl, hb⟩)
        | (go_at_call 96; refine (HB.out _).mono ?_; rintro e w2 ⟨rfl, hb2⟩))
      all_goals (go_wp2_with fail; go_meet; exact ⟨rfl, ((Below.refl _ w).drew.trans hb).trans (hb2.mono ((Below.refl _ w).drew.trans hb).size)⟩)
    case rest =>
      obtain ⟨rfl, hb⟩ := hcut
      go_wp2_with fail
      refine (clone_any x _ (by omega)).mono ?_
      rintro e w3 ⟨rfl, hb3⟩
      go_wp2_with fail
      go_ret2
      exact ⟨rfl, hb.trans (hb3.mono hb.size)⟩
  | false =>
    simp only [Bool.false_eq_true, if_false]
    go_enter Tryd.func81, Tryd.ntmps81
    go_upto_region 4 with fail
    rw [← HX.out]
    go_cut [16] (fun z wx => z = .bool true ∧ Below w.heap.size w wx)
    case first =>
      go_region_with (first
        | (go_at_call 95; refine (H.out w.drew w.heap.size rfl (HT.out.below (Below.refl _ w).drew)).mono ?_; rintro e w1 ⟨rfl, hb⟩)
        | (go_at_call 96; refine (HB.out _).mono ?_; rintro e w2 ⟨rfl, hb2⟩))
      all_goals (go_wp2_with fail; go_meet; exact ⟨rfl, ((Below.refl _ w).drew.trans hb).trans (hb2.mono ((Below.refl _ w).drew.trans hb).size)⟩)
    case rest =>
      obtain ⟨rfl, hb⟩ := hcut
      go_wp2_with fail
      go_ret2
      exact ⟨rfl, hb⟩
end Go.Proofs.YtpjbkeheemhlnaaDoor
