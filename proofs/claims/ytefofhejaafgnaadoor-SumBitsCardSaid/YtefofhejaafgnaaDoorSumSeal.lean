/- Package sum's Seal and Open, and strings.Clone. -/
import Derived.Test.YtefofhejaafgnaaDoorSumAdd
import Derived.Lib.Walk
import Derived.Lib.BufferWrite
import Derived.Lib.BufferRead
import Derived.Lib.UnsafeStr
import Derived.Laws.IdiomStrings
import Derived.Deep.RegionWith
import Derived.Deep.DeepCutAuto
namespace Go.Proofs.YtefofhejaafgnaaDoor
open Go.RowKit
set_option linter.unusedVariables false

theorem und_string : Tryd.prog.underlying 9 = some .string := by kernel_rfl
theorem info_u8 : (Tryd.prog.info? 5).map (fun i => (i.zero, i.size, i.bytes)) = some (some (.int .u8 0), 1, 1) := by kernel_rfl
theorem und_bytes : Tryd.prog.underlying 34 = some (.slice 5) := by kernel_rfl
theorem und_ptr_u8 : Tryd.prog.underlying 41 = some (.pointer 5) := by kernel_rfl

set_option maxHeartbeats 1000000 in
theorem slclone_any (s : ByteArray) (w : World) (hlim : s.size ≤ 281474976710656) :
    Calls Tryd.prog 16 #[.string s] w fun e w' => e = .returned (.string s) ∧ Below w.heap.size w w' := by
  by_cases h0 : s.size = 0
  · obtain rfl : s = ⟨#[]⟩ := ByteArray.ext (Array.eq_empty_of_size_eq_zero h0)
    clear h0
    go_enter Tryd.func16, Tryd.ntmps16
    go_wp2
    go_ret
    exact ⟨rfl, Below.refl _ _⟩
  · obtain ⟨i0, hi, hz0, hz1, hz2⟩ := info_parts info_u8
    have hinfo : (Tryd.prog.info? 5).map (·.size) = some 1 := by rw [hi]; simp [hz1]
    have hco : Tryd.prog.cellsOf 5 = 1 := by simp [Program.cellsOf, hi, hz1]
    obtain ⟨M, hM⟩ : ∃ M, M = madeCells (Value.int .u8 0).cells (((s.size : Nat) : Int).toNat * i0.size) := ⟨_, rfl⟩
    have hMs : M.size = s.size := by rw [hM, size_madeCells, hz1]; simp
    have hmk : ∀ W : World, (Instr.makeSlice 34 (.int .i64 (s.size : Int)) (.int .i64 (s.size : Int))).run Tryd.prog W = .ok (.slice (some ⟨W.heap.size, 0, none⟩) s.size s.size) (W.alloc (.cells M 5)) := fun W => by
      have h := run_make (P := Tryd.prog) W 34 5 i0 (.int .u8 0) und_bytes hi hz0 .i64 .i64 (s.size : Int) (s.size : Int) (by omega) (by omega) (by rw [hz2]; omega) (by omega)
      rw [← hM] at h
      simpa using h
    clear hM
    have hcp := Lib.run_copy_row_string (P := Tryd.prog) (w.alloc (.cells M 5)) 34 9 3 5 w.heap.size 0 s.size s.size s M 5 und_bytes hinfo (heap_alloc_new w _) (Nat.le_refl _) (by omega)
    obtain ⟨Y, hY⟩ : ∃ Y, Y = (M.toList.take 0 ++ Lib.byteCells s.data.toList ++ M.toList.drop (0 + s.size)).toArray := ⟨_, rfl⟩
    rw [← hY] at hcp
    have hYl : Y.toList = Lib.byteCells s.data.toList := by
      rw [hY, List.toList_toArray, List.take_zero, List.nil_append, List.drop_of_length_le (by rw [Array.length_toList]; omega), List.append_nil]
    have hYs : Y.size = s.size := by rw [← Array.length_toList, hYl, Lib.byteCells_length, ← Lib.size_eq]
    have hgY : ((w.alloc (.cells M 5)).setRow w.heap.size Y).heap[w.heap.size]? = some (.cells Y 5 (0, 0)) := setRow_heap _ _ M _ 5 (0, 0) (heap_alloc_new w _)
    have hne : s.data.toList ≠ [] := fun e => h0 (by rw [Lib.size_eq, e]; rfl)
    have hUS := Lib.run_unsafeString_row (P := Tryd.prog) ((w.alloc (.cells M 5)).setRow w.heap.size Y) 41 3 9 5 und_ptr_u8 hco w.heap.size Y.size (by unfold World.shape?; rw [hgY]) s.data.toList hne (by rw [← Lib.size_eq]; omega) (by rw [← Lib.size_eq]; omega)
      (fun j x hx => Lib.cells_of_row hgY Y.size j _ (by rw [List.take_of_length_le (by rw [Array.length_toList]; exact Nat.le_refl _), hYl]; simp [Lib.byteCells, hx]))
    rw [← Lib.size_eq] at hUS
    clear hY
    go_enter Tryd.func16, Tryd.ntmps16
    go_wp2
    go_ret
    have hb1 : Below w.heap.size w (w.alloc (.cells M 5)) := (Below.refl _ w).alloc (Nat.le_refl _) _
    have hb2 : Below w.heap.size (w.alloc (.cells M 5)) ((w.alloc (.cells M 5)).setRow w.heap.size Y) := ⟨rfl, rfl, rfl, by simp, fun k hk => setRow_other _ _ _ _ (by omega)⟩
    exact ⟨rfl, Lib.below_freeze (hb1.trans hb2) (p := ⟨w.heap.size, 0, none⟩) (Nat.le_refl _) _⟩

theorem clone_any (s : ByteArray) (w : World) (hlim : s.size ≤ 281474976710656) :
    Calls Tryd.prog 15 #[.string s] w fun e w' => e = .returned (.string s) ∧ Below w.heap.size w w' := by
  go_enter Tryd.func15, Tryd.ntmps15
  go_wp2_with (go_at_call 16; refine (slclone_any s _ hlim).mono ?_; rintro e w' ⟨rfl, hb⟩)
  go_ret
  exact ⟨rfl, hb⟩

/-- A list of bytes as cells. -/
def cellsOf (l : List UInt8) : List Value := l.map fun c => Value.int .u8 c.toNat
theorem cellsOf_length (l : List UInt8) : (cellsOf l).length = l.length := by simp [cellsOf]
theorem cellsOf_append (l m : List UInt8) : cellsOf (l ++ m) = cellsOf l ++ cellsOf m := by simp [cellsOf]
theorem cellsOf_nil : cellsOf [] = [] := rfl
theorem cellsOf_one (l : List UInt8) : ∀ v ∈ cellsOf l, v.oneCell' = true := by
  intro v hv
  simp only [cellsOf, List.mem_map] at hv
  obtain ⟨b, _, rfl⟩ := hv
  rfl
/-- The slice value v reads as the bytes l (nil, or any row). -/
def Src (w : World) (v : Value) (l : List UInt8) : Prop :=
  ∃ p cap, v = .slice p l.length cap ∧ ((p = none ∧ l = [] ∧ cap = 0) ∨ ∃ a, p = some a ∧ ∀ j x, (cellsOf l)[j]? = some x → w.cell? (Addr.add a j) = some x)
theorem Src.nil (w : World) : Src w (.slice none 0 0) [] := ⟨none, 0, rfl, .inl ⟨rfl, rfl, rfl⟩⟩
theorem Src.below {w w' : World} {v : Value} {l : List UInt8} (h : Src w v l) (k : Below w.heap.size w w') : Src w' v l := by
  obtain ⟨p, cap, hv, h⟩ := h
  refine ⟨p, cap, hv, ?_⟩
  rcases h with h | ⟨a, ha, hc⟩
  · exact .inl h
  · refine .inr ⟨a, ha, fun j x hx => ?_⟩
    have h1 := hc j x hx
    have h2 := World.block_lt_of_cell? w _ h1
    rw [k.cell h2]
    exact h1
theorem und_u8 : Tryd.prog.underlying 5 = some (.int .u8) := by kernel_rfl
theorem run_str {w : World} {v : Value} {l : List UInt8} (h : Src w v l) : (convert 34 9 v).run Tryd.prog w = .ok (.string ⟨l.toArray⟩) w := by
  obtain ⟨p, cap, rfl, ⟨rfl, rfl, rfl⟩ | ⟨a, rfl, hc⟩⟩ := h
  · exact Lib.run_convert_nil_bytes w 34 9 5 0 und_bytes und_u8 und_string
  · exact run_convert_bytes_back w 34 9 5 a cap l und_bytes und_u8 und_string (fun j hj => hc j _ (by simp [cellsOf, hj]))

theorem size_mk (l : List UInt8) : (ByteArray.mk l.toArray).size = l.length := by simp [ByteArray.size]
theorem data_mk (l : List UInt8) : (ByteArray.mk l.toArray).data.toList = l := by simp
theorem mk_data (s : ByteArray) : s = ⟨s.data.toList.toArray⟩ := by simp
theorem extract_mk (l : List UInt8) (a c : Nat) : (ByteArray.mk l.toArray).extract a c = ⟨((l.drop a).take (c - a)).toArray⟩ := by
  rw [mk_data ((ByteArray.mk l.toArray).extract a c), Lib.extract_data]
theorem extract_head (l : List UInt8) (n : Nat) : (ByteArray.mk l.toArray).extract 0 n = ⟨(l.take n).toArray⟩ := by rw [extract_mk]; simp
theorem extract_rest (l : List UInt8) (n : Nat) : (ByteArray.mk l.toArray).extract n (ByteArray.mk l.toArray).size = ⟨(l.drop n).toArray⟩ := by
  rw [extract_mk, size_mk, List.take_of_length_le (by simp)]


/-- A checksum as four bytes, the lowest first. -/
def bytesN (r : Nat) : List UInt8 := [UInt8.ofNat r, UInt8.ofNat (r / 256), UInt8.ofNat (r / 65536), UInt8.ofNat (r / 16777216)]
def sealN (l : List UInt8) : List UInt8 := bytesN (addN 0 l) ++ l
theorem bytesN_length (r : Nat) : (bytesN r).length = 4 := rfl

theorem src_new (w : World) (l : List UInt8) (c : Nat) : Src (w.alloc (.cells (cellsOf l).toArray 5)) (.slice (some ⟨w.heap.size, 0, none⟩) l.length c) l := by
  refine ⟨_, c, rfl, .inr ⟨_, rfl, fun j x hx => ?_⟩⟩
  rw [show (Addr.add ⟨w.heap.size, 0, none⟩ j : Addr) = ⟨w.heap.size, j, none⟩ by simp [Addr.add]; omega]
  have h := heap_alloc_new w (.cells (cellsOf l).toArray 5)
  simp only [World.cell?, h]
  simpa using hx
theorem four_cells (r : Nat) (hr : r < 4294967296) : (cellsOf (bytesN r)).toArray = #[Value.int IntKind.u8 ((r : Int) % 256), Value.int IntKind.u8 ((r : Int) / 256 % 256), Value.int IntKind.u8 ((r : Int) / 65536 % 256), Value.int IntKind.u8 ((r : Int) / 16777216)] := by
  simp [cellsOf, bytesN]
  omega

set_option maxHeartbeats 400000 in
theorem bytes_any (r : Nat) (w : World) (hr : r < 4294967296) :
    Calls Tryd.prog 14 #[.int .u32 r] w fun e w' => e = .returned (.string ⟨(bytesN r).toArray⟩) ∧ Below w.heap.size w w' := by
  have hst := run_str (src_new w (bytesN r) 4)
  rw [four_cells r hr, bytesN_length] at hst
  have hbe := (Below.refl w.heap.size w).alloc (Nat.le_refl _) (.cells #[Value.int IntKind.u8 ((r : Int) % 256), Value.int IntKind.u8 ((r : Int) / 256 % 256), Value.int IntKind.u8 ((r : Int) / 65536 % 256), Value.int IntKind.u8 ((r : Int) / 16777216)] 5)
  generalize ByteArray.mk (bytesN r).toArray = s at *
  go_enter Tryd.func14, Tryd.ntmps14
  go_wp2_with fail
  go_ret
  exact ⟨rfl, hbe⟩

set_option maxHeartbeats 400000 in
theorem seal_any (s : ByteArray) (w : World) (ht : Tabs w) (hs : s.size ≤ 281474976710656) :
    Calls Tryd.prog 12 #[.string s] w fun e w' => e = .returned (.string ⟨(sealN s.data.toList).toArray⟩) ∧ Below w.heap.size w w' := by
  have H := Lib.hid (of_one s w w.heap.size rfl ht (by unfold maxLen; omega))
  have hr := addN_lt 0 s.data.toList (by omega)
  have HS := Lib.hid (show ByteArray.mk (bytesN (addN 0 s.data.toList)).toArray ++ s = ⟨(sealN s.data.toList).toArray⟩ by apply ByteArray.ext; simp [sealN])
  have h4 : (ByteArray.mk (bytesN (addN 0 s.data.toList)).toArray).size ≤ 4 := by rw [size_mk, bytesN_length]; exact Nat.le_refl _
  have HB := Lib.hid (fun (W : World) => bytes_any (addN 0 s.data.toList) W hr)
  generalize ByteArray.mk (bytesN (addN 0 s.data.toList)).toArray = y at *
  generalize addN 0 s.data.toList = r at *
  obtain ⟨V, hV⟩ : ∃ V, V = ByteArray.mk (sealN s.data.toList).toArray := ⟨_, rfl⟩
  rw [← hV] at HS ⊢
  clear hV
  go_enter Tryd.func12, Tryd.ntmps12
  go_wp2_with fail
  refine H.out.mono ?_
  rintro e w1 ⟨rfl, hb⟩
  go_wp2_with fail
  refine (HB.out _).mono ?_
  rintro e w2 ⟨rfl, hb2⟩
  go_wp2_with fail
  go_ret
  exact ⟨by rw [← HS.out]; rfl, hb.trans (hb2.mono hb.size)⟩

theorem open_short (t : ByteArray) (w : World) (h : t.size < 4) :
    Calls Tryd.prog 13 #[.string t] w fun e w' => e = .returned (.tuple #[.string ⟨#[]⟩, .bool false]) ∧ Below w.heap.size w w' := by
  have hd : decide ((t.size : Int) < 4) = true := by simp; omega
  go_enter Tryd.func13, Tryd.ntmps13
  go_wp2_with fail
  go_ret2
  exact ⟨rfl, Below.refl _ _⟩

set_option maxHeartbeats 1000000 in
theorem open_any (t : ByteArray) (w : World) (h : 4 ≤ t.size) (ht : Tabs w) (hs : t.size ≤ 140737488355328) (B : Bool)
    (hB : B = (bytesN (addN 0 (t.data.toList.drop 4)) == t.data.toList.take 4)) :
    Calls Tryd.prog 13 #[.string t] w fun e w' => e = .returned (.tuple #[.string (if B = true then ⟨(t.data.toList.drop 4).toArray⟩ else ⟨#[]⟩), .bool B]) ∧ Below w.heap.size w w' := by
  have hd : decide ((t.size : Int) < 4) = false := by simp; omega
  obtain ⟨x, hx⟩ : ∃ x, x = t.extract 4 t.size := ⟨_, rfl⟩
  have hxd : x.data.toList = t.data.toList.drop 4 := by
    rw [hx, Lib.extract_data, List.take_of_length_le (by rw [List.length_drop, ← Lib.size_eq]; exact Nat.le_refl _)]
  have hxx : x = ⟨(t.data.toList.drop 4).toArray⟩ := by rw [← hxd]
  have hxs : x.size ≤ 140737488355328 := by rw [hx]; simp; omega
  have H := Lib.hid (fun (W : World) (N : Nat) (hN : N = W.heap.size) (hT : Tabs W) => of_one x W N hN hT (by unfold maxLen; omega))
  rw [hxd] at H
  have hr := addN_lt 0 (t.data.toList.drop 4) (by omega)
  have HB := Lib.hid (fun (W : World) => bytes_any (addN 0 (t.data.toList.drop 4)) W hr)
  have hcmp : ((ByteArray.mk (bytesN (addN 0 (t.data.toList.drop 4))).toArray).toList == (t.extract 0 4).toList) = B := by
    rw [ByteArray.toList_eq, ByteArray.toList_eq, Lib.extract_data, hB]
    simp
  rw [← hxx]
  generalize ByteArray.mk (bytesN (addN 0 (t.data.toList.drop 4))).toArray = y at *
  generalize addN 0 (t.data.toList.drop 4) = r at *
  have HX := Lib.hid hx
  have HT := Lib.hid ht
  clear hxd hxx hB ht hx
  cases B with
  | true =>
    simp only [if_true]
    go_enter Tryd.func13, Tryd.ntmps13
    go_upto_region 4 with fail
    rw [← HX.out]
    go_cut [16] (fun z wx => z = .bool false ∧ Below w.heap.size w wx)
    case first =>
      go_region_with (first
        | (go_at_call 9; refine (H.out w.drew w.heap.size rfl (HT.out.below (Below.refl _ w).drew)).mono ?_; rintro e w1 ⟨rfl, hb⟩)
        | (go_at_call 14; refine (HB.out _).mono ?_; rintro e w2 ⟨rfl, hb2⟩))
      all_goals (go_wp2_with fail; go_meet; exact ⟨rfl, ((Below.refl _ w).drew.trans hb).trans (hb2.mono ((Below.refl _ w).drew.trans hb).size)⟩)
    case rest =>
      obtain ⟨rfl, hb⟩ := hcut
      go_wp2_with fail
      refine (clone_any x _ (by omega)).mono ?_
      rintro e w3 ⟨rfl, hb3⟩
      go_wp2_with fail
      go_ret2
      exact ⟨rfl, hb.trans (hb3.mono hb.size)⟩
  | false =>
    simp only [Bool.false_eq_true, if_false]
    go_enter Tryd.func13, Tryd.ntmps13
    go_upto_region 4 with fail
    rw [← HX.out]
    go_cut [16] (fun z wx => z = .bool true ∧ Below w.heap.size w wx)
    case first =>
      go_region_with (first
        | (go_at_call 9; refine (H.out w.drew w.heap.size rfl (HT.out.below (Below.refl _ w).drew)).mono ?_; rintro e w1 ⟨rfl, hb⟩)
        | (go_at_call 14; refine (HB.out _).mono ?_; rintro e w2 ⟨rfl, hb2⟩))
      all_goals (go_wp2_with fail; go_meet; exact ⟨rfl, ((Below.refl _ w).drew.trans hb).trans (hb2.mono ((Below.refl _ w).drew.trans hb).size)⟩)
    case rest =>
      obtain ⟨rfl, hb⟩ := hcut
      go_wp2_with fail
      go_ret2
      exact ⟨rfl, hb⟩
end Go.Proofs.YtefofhejaafgnaaDoor
