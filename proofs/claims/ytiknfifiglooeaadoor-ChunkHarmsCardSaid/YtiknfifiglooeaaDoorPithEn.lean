/- Package pith's encoders: extend, bigEndian; what they append as plain lists of bytes. Package pith's bigEndian, Num, Text and Flag. Package pith's Num, Text and Flag. Package pith's Text and Flag. Plain facts on big-endian bytes: what is read is what was laid, and their order is the numbers' order. No program. Plain facts on what a reader reads of what was laid, and what stands where something was read. No program. -/
import Derived.Test.YtiknfifiglooeaaDoorPithRm
import Derived.Lib.AppendStr
namespace Go.Proofs.YtiknfifiglooeaaDoor
section
open Go.RowKit
set_option linter.unusedVariables false
set_option maxRecDepth 100000

theorem cellsOf_str (s : ByteArray) : Lib.strCells s = cellsOf s.data.toList := rfl
/-- The slice value v holds the bytes l, in a row of the call's own from block B on (or nil). -/
def Bs (w : World) (B : Nat) (v : Value) (l : List UInt8) : Prop := w.ownsRow B 5 1 v l.length (cellsOf l)
theorem Bs.nil (w : World) (B : Nat) : Bs w B (.slice none 0 0) [] := World.ownsRow_nil _ _ _ _
theorem Bs.mono {w : World} {B C : Nat} {v : Value} {l : List UInt8} (h : Bs w B v l) (hc : C ≤ B) : Bs w C v l := by
  obtain ⟨h1, h2⟩ := h
  refine ⟨h1, ?_⟩
  rcases h2 with h2 | ⟨g, cap, cur, hv, hg, r⟩
  · exact .inl h2
  · exact .inr ⟨g, cap, cur, hv, by omega, r⟩
theorem Bs.below {w w' : World} {B : Nat} {v : Value} {l : List UInt8} (h : Bs w B v l) (k : Below w.heap.size w w') : Bs w' B v l := by
  obtain ⟨h1, h2⟩ := h
  refine ⟨h1, ?_⟩
  rcases h2 with h2 | ⟨g, cap, cur, hv, hg, hh, r⟩
  · exact .inl h2
  · exact .inr ⟨g, cap, cur, hv, hg, (k.block g (lt_of_block hh)).trans hh, r⟩
theorem Bs.shape {w : World} {B : Nat} {v : Value} {l : List UInt8} (h : Bs w B v l) : ∃ a c, v = .slice a l.length c ∧ l.length ≤ c := by
  obtain ⟨h1, h2⟩ := h
  rcases h2 with ⟨h2, h3⟩ | ⟨g, cap, cur, hv, hg, hh, hc, r⟩
  · exact ⟨none, 0, by rw [h2, h3], by omega⟩
  · exact ⟨_, cap, hv, hc⟩

theorem Bs.src {w : World} {B : Nat} {v : Value} {l : List UInt8} (h : Bs w B v l) : Src w v l := by
  obtain ⟨h1, h2⟩ := h
  rcases h2 with ⟨rfl, h3⟩ | ⟨g, cap, cur, rfl, hg, hh, hc1, hc2, hc3, hc4⟩
  · obtain rfl : l = [] := List.eq_nil_of_length_eq_zero h3
    exact Src.nil w
  · refine ⟨_, cap, rfl, .inr ⟨_, rfl, fun j x hx => ?_⟩⟩
    have hjl : j < l.length := by
      have := (List.getElem?_eq_some_iff.1 hx).1
      rwa [cellsOf_length] at this
    rw [← hc4] at hx
    rw [List.getElem?_take] at hx
    simp only [Nat.mul_one, hjl, if_true] at hx
    rw [show (Addr.add ⟨g, 0, none⟩ j : Addr) = ⟨g, j, none⟩ by simp [Addr.add]; omega]
    simp only [World.cell?, hh]
    simpa using hx

set_option maxHeartbeats 1000000 in
theorem extend_any (v : Value) (l : List UInt8) (more : Nat) (w : World) (h : Src w v l) (hl : l.length + more ≤ 140737488355328) :
    Calls Tryd.prog 89 #[v, .int .i64 more] w fun e w' => ∃ v', e = .returned v' ∧ Bs w' w.heap.size v' l ∧ Below w.heap.size w w' := by
  obtain ⟨i0, hi, hz0, hz1, hz2⟩ := info_parts info_u8
  have hinfo : (Tryd.prog.info? 5).map (·.size) = some 1 := by rw [hi]; simp [hz1]
  obtain ⟨n, hn⟩ : ∃ n, n = l.length := ⟨_, rfl⟩
  obtain ⟨M, hM⟩ : ∃ M, M = madeCells (Value.int .u8 0).cells (((n + more : Nat) : Int).toNat * i0.size) := ⟨_, rfl⟩
  have hnm : ((n : Int) + (more : Int)).toNat = n + more := by omega
  have hMs : M.size = n + more := by rw [hM, size_madeCells, hz1]; simp [hnm]
  have hmk : ∀ W : World, (Instr.makeSlice 100 (.int .i64 (n : Int)) (.int .i64 ((n : Int) + (more : Int)))).run Tryd.prog W = .ok (.slice (some ⟨W.heap.size, 0, none⟩) n (n + more)) (W.alloc (.cells M 5)) := fun W => by
    have h := run_make (P := Tryd.prog) W 100 5 i0 (.int .u8 0) und_bytes hi hz0 .i64 .i64 (n : Int) ((n : Int) + (more : Int)) (by omega) (by omega) (by rw [hz2]; omega) (by omega)
    rw [show (n : Int) + (more : Int) = ((n + more : Nat) : Int) by omega, ← hM] at h
    rw [show (n : Int) + (more : Int) = ((n + more : Nat) : Int) by omega]
    simpa [hnm] using h
  clear hM hnm
  obtain ⟨p, cap, rfl, h2⟩ := h
  have hfin : ∀ (Y : Array Value), Y.size = n + more → Y.toList.take n = cellsOf l → Bs ((w.alloc (.cells M 5)).setRow w.heap.size Y) w.heap.size (.slice (some ⟨w.heap.size, 0, none⟩) n (n + more)) l := by
    intro Y hY hYl
    refine ⟨by rw [cellsOf_length, Nat.mul_one], .inr ⟨w.heap.size, n + more, Y, by rw [hn], Nat.le_refl _, setRow_heap _ _ M _ 5 (0, 0) (heap_alloc_new w _), by omega, by unfold maxLen; omega, by omega, ?_⟩⟩
    rw [Nat.mul_one, ← hn, hYl]
  have hbel : ∀ Y : Array Value, Below w.heap.size w ((w.alloc (.cells M 5)).setRow w.heap.size Y) := fun Y =>
    ((Below.refl _ w).alloc (Nat.le_refl _) _).trans ⟨rfl, rfl, rfl, by simp, fun k hk => setRow_other _ _ _ _ (by omega)⟩
  rcases h2 with ⟨rfl, rfl, rfl⟩ | ⟨a, rfl, hsrc⟩
  · have hcp := run_copy_nil (P := Tryd.prog) (w.alloc (.cells M 5)) 100 100 3 5 ⟨w.heap.size, 0, none⟩ 0 (0 + more) und_bytes (by rw [hi]; rfl)
    have hn0 : n = 0 := hn
    subst hn0
    have hX : Bs (w.alloc (.cells M 5)) w.heap.size (.slice (some ⟨w.heap.size, 0, none⟩) 0 (0 + more)) [] :=
      ⟨rfl, .inr ⟨w.heap.size, 0 + more, M, rfl, Nat.le_refl _, heap_alloc_new w _, by simp, by unfold maxLen; simp at hl; omega, by omega, by simp [cellsOf]⟩⟩
    have HX := Lib.hid hX
    clear hX hfin hbel hn
    have hmk0 : ∀ W : World, (Instr.makeSlice 100 (.int .i64 0) (.int .i64 (more : Int))).run Tryd.prog W = .ok (.slice (some ⟨W.heap.size, 0, none⟩) 0 more) (W.alloc (.cells M 5)) := fun W => by simpa using hmk W
    simp only [Nat.zero_add] at hcp
    clear hmk
    go_enter Tryd.func89, Tryd.ntmps89
    go_wp2
    go_ret
    exact ⟨_, rfl, by simpa using HX.out, (Below.refl _ w).alloc (Nat.le_refl _) _⟩
  · have hcp := run_copy_row (P := Tryd.prog) (w.alloc (.cells M 5)) 100 100 3 5 w.heap.size 0 n (n + more) a n cap M 5 (cellsOf l) und_bytes hinfo (heap_alloc_new w _) (by rw [cellsOf_length, ← hn]; exact (Nat.min_self n).symm)
      (by
        intro j x hx
        have h1 := hsrc j x hx
        rw [← h1]
        exact ((Below.refl w.heap.size w).alloc (Nat.le_refl _) _).cell (World.block_lt_of_cell? w _ h1))
      (by rw [cellsOf_length]; omega) (cellsOf_one l)
    obtain ⟨Y, hY⟩ : ∃ Y, Y = (M.toList.take 0 ++ cellsOf l ++ M.toList.drop (0 + (cellsOf l).length)).toArray := ⟨_, rfl⟩
    rw [← hY, cellsOf_length, ← hn] at hcp
    have hYl : Y.toList.take n = cellsOf l := by
      rw [hY, List.toList_toArray, List.take_zero, List.nil_append, List.take_left' (by rw [cellsOf_length, hn])]
    have hYs : Y.size = n + more := by rw [hY]; simp [cellsOf_length]; omega
    have HX := Lib.hid (hfin Y hYs hYl)
    have HB := Lib.hid (hbel Y)
    have hnb : n + more ≤ 140737488355328 := by omega
    rw [← hn]
    clear hY hfin hbel hn hYl hsrc hMs hYs
    go_enter Tryd.func89, Tryd.ntmps89
    go_wp2
    go_ret
    exact ⟨_, rfl, HX.out, HB.out⟩
end
section
open Go.RowKit
set_option linter.unusedVariables false
set_option maxRecDepth 100000

/-- The lowest bytes of n, so many, the highest first. -/
def be (size n : Nat) : List UInt8 := (List.range size).map fun i => UInt8.ofNat (n / 256 ^ (size - 1 - i))
theorem be_length (size n : Nat) : (be size n).length = size := by simp [be]
theorem be_take (size n k : Nat) (h : k < size) : (be size n).take (k + 1) = (be size n).take k ++ [UInt8.ofNat (n / 256 ^ (size - 1 - k))] := by
  rw [List.take_succ_eq_append_getElem (by rw [be_length]; exact h)]
  simp [be]

theorem be_byte (n m : Nat) : (n : Int) / 2 ^ (8 * m) % 256 = ((UInt8.ofNat (n / 256 ^ m)).toNat : Int) := by
  have h : (2 : Int) ^ (8 * m) = ((256 ^ m : Nat) : Int) := by
    rw [Int.pow_mul, Int.natCast_pow]; rfl
  rw [h, UInt8.toNat_ofNat']
  generalize 256 ^ m = q
  simp
theorem be_step {w1 : World} {B : Nat} {v' : Value} {l m : List UInt8} {n size k : Nat} (hk : k < size) (hm : m = l ++ (be size n).take k)
    (hown : w1.ownsRow B 5 1 v' (m.length + 1) (cellsOf m ++ [.int .u8 ((n : Int) / 2 ^ (8 * (size - 1 - k)) % 256)])) :
    Bs w1 B v' (l ++ (be size n).take (k + 1)) := by
  unfold Bs
  rw [be_take size n k hk, ← List.append_assoc, ← hm]
  rw [cellsOf_append, List.length_append, List.length_singleton]
  rw [be_byte] at hown
  exact hown

set_option maxHeartbeats 1000000 in
theorem bigEndian_any (B : Nat) (v : Value) (l : List UInt8) (n size : Nat) (w : World) (h : Bs w B v l) (hB : B ≤ w.heap.size) (hl : l.length + size ≤ 140737488355328) (hn : n < 2 ^ 62) (hs : size ≤ 8) :
    Calls Tryd.prog 90 #[v, .int .i64 n, .int .i64 size] w fun e w' => ∃ v', e = .returned v' ∧ Bs w' B v' (l ++ be size n) ∧ Below B w w' := by
  obtain ⟨i0, hi, hz0, hz1, hz2⟩ := info_parts info_u8
  go_enter Tryd.func90, Tryd.ntmps90
  go_wp2_with fail
  go_loopw [0, 9] (fun x i wr => ∃ k : Nat, k ≤ size ∧ i = .int .i64 k ∧ Bs wr B x (l ++ (be size n).take k) ∧ Below B w wr) (fun _ i _ => size - (intOf i).toNat)
  case atStart => exact ⟨0, Nat.zero_le _, rfl, by simpa using h, Below.refl _ _⟩
  case round =>
    obtain ⟨k, hk, rfl, hown, hb⟩ := hrel
    by_cases hlt : k < size
    · have hsz := hb.size
      obtain ⟨m, hm⟩ : ∃ m, m = l ++ (be size n).take k := ⟨_, rfl⟩
      have hlen : m.length ≤ l.length + k := by
        rw [hm, List.length_append, List.length_take]; omega
      rw [← hm] at hown
      have HM := Lib.hid hm
      clear hm
      go_wp2_with (at_builtin; refine wpList_append_own _ rfl _ _ 100 rfl B 5 i0 (.int .u8 0) 1 1 und_bytes hi hz0 hz1 hz2 rfl (by decide) _ _ _ rfl (hown.alloc _) ⟨wr.heap.size, 0, none⟩ 1 1 [.int .u8 ((n : Int) / 2 ^ (8 * (size - 1 - k)) % 256)] rfl rfl ?c1 ?c2 ?c3 ?c4 ?c5 ?_)
      case c1 =>
        intro j u hj
        match j, hj with
        | 0, hj => simp at hj; subst hj; simp [Addr.add]
      case c2 => intro u hu; simp at hu; subst hu; rfl
      case c3 => unfold maxLen; omega
      case c4 => omega
      case c5 => simp; omega
      · intro v' w1 hown' hgrow _
        have R := be_step hlt HM.out hown'
        have hbel : Below B w w1 := by
          refine (hb.alloc (by omega) _).grown hgrow (by simp; omega) ?_
          intro q hq
          rcases hown.2 with ⟨h2, _⟩ | ⟨g, cap, cur, hv, hg, _⟩
          · rw [h2] at hq; simp [Value.ownBlock] at hq
          · rw [hv] at hq; simp [Value.ownBlock] at hq; omega
        clear hown' hgrow hown hlen
        go_wp2_with fail
        go_roundw
        case rel => exact ⟨k + 1, by omega, by go_num, R, hbel⟩
        case measure => simp [intOf]; omega
    · have hkk : (be size n).take k = be size n := List.take_of_length_le (by rw [be_length]; omega)
      rw [hkk] at hown
      have HO := Lib.hid hown
      clear hown hkk
      go_wp2_with fail
      go_ret
      exact ⟨_, rfl, HO.out, hb⟩
end
section
open Go.RowKit
set_option linter.unusedVariables false
set_option maxRecDepth 100000

/-- A number's six bytes. -/
def numE (z : Int) : List UInt8 := be 6 (min (max z 0) 281474976710655).toNat
def numsE (zs : List Int) : List UInt8 := zs.flatMap numE
theorem numE_length (z : Int) : (numE z).length = 6 := be_length _ _
theorem numsE_length (zs : List Int) : (numsE zs).length = 6 * zs.length := by
  induction zs with
  | nil => rfl
  | cons z zs ih => rw [numsE, List.flatMap_cons, List.length_append, numE_length]; unfold numsE at ih; rw [ih, List.length_cons]; omega
theorem take_snoc_getD {α : Type} (zs : List α) (d : α) (k : Nat) (h : k < zs.length) : zs.take (k + 1) = zs.take k ++ [zs.getD k d] := by
  rw [List.take_succ_eq_append_getElem h, show zs.getD k d = zs[k] by simp [h]]
theorem numsE_snoc (zs : List Int) (k : Nat) (h : k < zs.length) : numsE (zs.take (k + 1)) = numsE (zs.take k) ++ numE (zs.getD k 0) := by
  rw [take_snoc_getD zs 0 k h, numsE, List.flatMap_append]; simp [numsE]

set_option maxHeartbeats 1000000 in
theorem num_list (v : Value) (l : List UInt8) (b off cap : Nat) (zs : List Int) (w : World) (h : Src w v l) (hb : b < w.heap.size)
    (hl : l.length + 6 * zs.length ≤ 140737488355328)
    (hz : ∀ j, j < zs.length → -9223372036854775808 ≤ zs.getD j 0 ∧ zs.getD j 0 ≤ 9223372036854775807)
    (hc : ∀ j, j < zs.length → w.cell? ⟨b, off + j, none⟩ = some (.int .i64 (zs.getD j 0))) :
    Calls Tryd.prog 47 #[v, .slice (some ⟨b, off, none⟩) zs.length cap] w fun e w' => ∃ v', e = .returned v' ∧ Bs w' w.heap.size v' (l ++ numsE zs) ∧ Below w.heap.size w w' := by
  have HE := Lib.hid (extend_any v l (6 * zs.length) w h (by omega))
  obtain ⟨a0, c0, rfl, _⟩ := h
  have HZ := Lib.hid hz
  have HC := Lib.hid hc
  clear hz hc
  go_enter Tryd.func47, Tryd.ntmps47
  go_wp2_with fail
  refine HE.out.mono ?_
  rintro e w1 ⟨v1, rfl, ho1, hb1⟩
  go_wp2_with fail
  go_loopw [5, 15] (fun x i wr => ∃ k : Nat, k ≤ zs.length ∧ i = .int .i64 k ∧ Bs wr w.heap.size x (l ++ numsE (zs.take k)) ∧ Below w.heap.size w wr) (fun _ i _ => zs.length - (intOf i).toNat)
  case atStart => exact ⟨0, Nat.zero_le _, rfl, by simpa [numsE] using ho1, hb1⟩
  case round =>
    obtain ⟨k, hk, rfl, hown, hb⟩ := hrel
    by_cases hlt : k < zs.length
    · have hcell : wr.cell? ⟨b, off + k, none⟩ = some (.int .i64 (zs.getD k 0)) := (hb.cell (p := ⟨b, off + k, none⟩) (by assumption)).trans (HC.out k hlt)
      have hzk := HZ.out k hlt
      have hes : l ++ numsE (zs.take (k + 1)) = (l ++ numsE (zs.take k)) ++ numE (zs.getD k 0) := by rw [numsE_snoc zs k hlt, List.append_assoc]
      have hln : (l ++ numsE (zs.take k)).length ≤ l.length + 6 * k := by
        rw [List.length_append, numsE_length, List.length_take]; omega
      have HES := Lib.hid hes
      clear hes
      generalize l ++ numsE (zs.take k) = m at *
      generalize zs.getD k 0 = z at *
      obtain ⟨n, hn⟩ := Int.eq_ofNat_of_zero_le (show 0 ≤ min (max z 0) 281474976710655 by omega)
      have hn2 : n < 2 ^ 62 := by omega
      have hnz : numE z = be 6 n := by unfold numE; rw [hn]; rfl
      have HN := Lib.hid hn
      have HNZ := Lib.hid hnz
      clear hn hnz
      have hsz := hb.size
      go_wp2_with fail
      rw [HN.out]
      refine (bigEndian_any w.heap.size _ m n 6 _ hown hsz (by omega) hn2 (by omega)).mono ?_
      rintro e w2 ⟨v2, rfl, ho2, hb2⟩
      rw [← HNZ.out, ← HES.out] at ho2
      go_wp2_with fail
      go_roundw
      case rel => exact ⟨k + 1, by omega, by go_num, ho2, hb.trans hb2⟩
      case measure => simp [intOf]; omega
    · have hkk : zs.take k = zs := List.take_of_length_le (by omega)
      rw [hkk] at hown
      have HO := Lib.hid hown
      clear hown hkk
      go_wp2_with fail
      go_ret
      exact ⟨_, rfl, HO.out, hb⟩

set_option maxHeartbeats 1000000 in
theorem num_none (v : Value) (l : List UInt8) (p : Option Addr) (cap : Nat) (w : World) (h : Src w v l)
    (hl : l.length ≤ 140737488355328) :
    Calls Tryd.prog 47 #[v, .slice p 0 cap] w fun e w' => ∃ v', e = .returned v' ∧ Bs w' w.heap.size v' l ∧ Below w.heap.size w w' := by
  have HE := Lib.hid (extend_any v l 0 w h (by omega))
  obtain ⟨a0, c0, rfl, _⟩ := h
  go_enter Tryd.func47, Tryd.ntmps47
  go_wp2_with fail
  refine HE.out.mono ?_
  rintro e w1 ⟨v1, rfl, ho1, hb1⟩
  go_wp2_with fail
  refine wp_loop_rounds 1 ?_
  rw [rounds_succ]
  go_wp2_with fail
  go_ret
  exact ⟨_, rfl, ho1, hb1⟩

/-- One number. -/
theorem num_one (v : Value) (l : List UInt8) (z : Int) (w : World) (h : Src w v l) (hl : l.length + 6 ≤ 140737488355328)
    (hz : -9223372036854775808 ≤ z ∧ z ≤ 9223372036854775807) :
    Calls Tryd.prog 47 #[v, .slice (some ⟨w.heap.size, 0, none⟩) 1 1] (w.alloc (.cells #[.int .i64 z] 3)) fun e w' => ∃ v', e = .returned v' ∧ Bs w' w.heap.size v' (l ++ numE z) ∧ Below w.heap.size w w' := by
  have h0 := (Below.refl w.heap.size w).alloc (Nat.le_refl _) (.cells #[.int .i64 z] 3)
  refine (num_list v l w.heap.size 0 1 [z] (w.alloc (.cells #[.int .i64 z] 3)) (h.below h0) (by simp) (by simpa using hl) ?_ ?_).mono ?_
  · intro j hj
    match j, hj with
    | 0, _ => exact hz
  · intro j hj
    match j, hj with
    | 0, _ => simp [World.cell?_alloc_at]
  · rintro e w' ⟨v', he, ho, hb⟩
    refine ⟨v', he, ?_, h0.trans (hb.mono (by simp))⟩
    have := ho.mono (C := w.heap.size) (by simp)
    simpa [numsE] using this
end
section
open Go.RowKit
set_option linter.unusedVariables false
set_option maxRecDepth 100000

/-- A string's bytes: its length in two bytes, and (at most 65535 of) its bytes. -/
def textE (l : List UInt8) : List UInt8 := be 2 (l.take 65535).length ++ l.take 65535
def textsE (ss : List ByteArray) : List UInt8 := ss.flatMap fun s => textE s.data.toList
theorem textE_length (l : List UInt8) : (textE l).length ≤ 65537 := by
  unfold textE; rw [List.length_append, be_length, List.length_take]; omega
theorem textsE_length (ss : List ByteArray) : (textsE ss).length ≤ 65537 * ss.length := by
  induction ss with
  | nil => exact Nat.le_refl 0
  | cons z zs ih => rw [textsE, List.flatMap_cons, List.length_append, List.length_cons]; have := textE_length z.data.toList; unfold textsE at ih; omega
theorem textsE_snoc (zs : List ByteArray) (k : Nat) (h : k < zs.length) : textsE (zs.take (k + 1)) = textsE (zs.take k) ++ textE (zs.getD k ByteArray.empty).data.toList := by
  rw [take_snoc_getD zs ByteArray.empty k h, textsE, List.flatMap_append]; simp [textsE]
theorem textE_parts (s : ByteArray) (n : Nat) (hn : n = min s.size 65535) : textE s.data.toList = be 2 n ++ (s.extract 0 n).data.toList := by
  have h : s.data.toList.take 65535 = (s.extract 0 n).data.toList := by
    rw [Lib.extract_data, List.drop_zero, Nat.sub_zero]
    by_cases hs : s.size ≤ 65535
    · rw [List.take_of_length_le (by simpa using hs), List.take_of_length_le (by rw [hn]; simp; omega)]
    · rw [show n = 65535 by omega]
  unfold textE
  rw [h]
  congr 2
  rw [← Lib.size_eq]; simp; omega

set_option maxHeartbeats 1000000 in
theorem text_list (v : Value) (l : List UInt8) (b off cap : Nat) (zs : List ByteArray) (w : World) (h : Src w v l) (hb : b < w.heap.size)
    (hl : l.length + 65537 * zs.length ≤ 140737488355328)
    (hz : ∀ j, j < zs.length → (zs.getD j ByteArray.empty).size ≤ maxLen)
    (hc : ∀ j, j < zs.length → w.cell? ⟨b, off + j, none⟩ = some (.string (zs.getD j ByteArray.empty))) :
    Calls Tryd.prog 123 #[v, .slice (some ⟨b, off, none⟩) zs.length cap] w fun e w' => ∃ v', e = .returned v' ∧ Bs w' w.heap.size v' (l ++ textsE zs) ∧ Below w.heap.size w w' := by
  obtain ⟨i0, hi, hz0, hz1, hz2⟩ := info_parts info_u8
  have HE := Lib.hid (fun (m : Nat) (hm : m ≤ 65537 * zs.length) => extend_any v l m w h (by omega))
  obtain ⟨a0, c0, rfl, _⟩ := h
  have HZ := Lib.hid hz
  have HC := Lib.hid hc
  clear hz hc
  go_enter Tryd.func123, Tryd.ntmps123
  go_wp2_with fail
  go_loop [5, 13] (fun x i => ∃ k m : Nat, k ≤ zs.length ∧ i = .int .i64 k ∧ x = .int .i64 m ∧ m ≤ 65537 * k) (fun _ i => zs.length - (intOf i).toNat)
  case atStart => exact ⟨0, 0, Nat.zero_le _, rfl, rfl, Nat.zero_le _⟩
  case round =>
    obtain ⟨k, m, hk, rfl, rfl, hm⟩ := hrel
    by_cases hlt : k < zs.length
    · have hcell := HC.out k hlt
      have hzk := HZ.out k hlt
      generalize zs.getD k ByteArray.empty = z at *
      unfold maxLen at hzk
      go_wp2_with fail
      go_round
      case rel => exact ⟨k + 1, m + (2 + min z.size 65535), by omega, by go_num, by go_num, by omega⟩
      case measure => simp [intOf]; omega
    · go_wp2_with fail
      refine (HE.out m (by omega)).mono ?_
      rintro e w1 ⟨v1, rfl, ho1, hb1⟩
      clear hm
      go_wp2_with fail
      go_loopw [8, 29] (fun x i wr => ∃ k : Nat, k ≤ zs.length ∧ i = .int .i64 k ∧ Bs wr w.heap.size x (l ++ textsE (zs.take k)) ∧ Below w.heap.size w wr) (fun _ i _ => zs.length - (intOf i).toNat)
      case atStart => exact ⟨0, Nat.zero_le _, rfl, by simpa [textsE] using ho1, hb1⟩
      case round =>
        obtain ⟨j, hj, rfl, hown, hbw⟩ := hrel
        by_cases hlt2 : j < zs.length
        · have hcell : wr.cell? ⟨b, off + j, none⟩ = some (.string (zs.getD j ByteArray.empty)) := (hbw.cell (p := ⟨b, off + j, none⟩) (by assumption)).trans (HC.out j hlt2)
          have hzk := HZ.out j hlt2
          have hes : l ++ textsE (zs.take (j + 1)) = (l ++ textsE (zs.take j)) ++ textE (zs.getD j ByteArray.empty).data.toList := by rw [textsE_snoc zs j hlt2, List.append_assoc]
          have hln : (l ++ textsE (zs.take j)).length ≤ l.length + 65537 * j := by
            rw [List.length_append]
            have := textsE_length (zs.take j)
            rw [List.length_take] at this
            omega
          have HES := Lib.hid hes
          clear hes
          generalize l ++ textsE (zs.take j) = q at *
          generalize zs.getD j ByteArray.empty = z at *
          unfold maxLen at hzk
          obtain ⟨n, hn⟩ : ∃ n : Nat, n = min z.size 65535 := ⟨_, rfl⟩
          have hn1 : n ≤ z.size := by omega
          have hn2 : n ≤ 65535 := by omega
          have hmin : min (z.size : Int) 65535 = (n : Int) := by omega
          have HTP := Lib.hid (textE_parts z n hn)
          have hsz := hbw.size
          have hxs : (z.extract 0 n).size = n := by simp; omega
          have HXS := Lib.hid hxs
          clear hn hxs
          go_wp2_with fail
          refine (bigEndian_any w.heap.size _ q n 2 _ hown hsz (by omega) (by omega) (by omega)).mono ?_
          rintro e w2 ⟨v2, rfl, ho2, hb2⟩
          have hsz2 := hb2.size
          have hq2 : (q ++ be 2 n).length ≤ q.length + 2 := by rw [List.length_append, be_length]; exact Nat.le_refl _
          obtain ⟨q2, hq2e⟩ : ∃ q2, q2 = q ++ be 2 n := ⟨_, rfl⟩
          rw [← hq2e] at ho2 hq2
          have HQ2 := Lib.hid hq2e
          clear hq2e
          obtain ⟨x, hx⟩ : ∃ x, x = z.extract 0 n := ⟨_, rfl⟩
          rw [← hx] at HXS HTP ⊢
          have hxz : x.size ≤ 65535 := by rw [HXS.out]; omega
          have HX := Lib.hid hx
          clear hx
          go_wp2_with (at_builtin; refine Lib.wpList_append_own_string _ rfl _ _ 100 9 rfl w.heap.size 5 i0 und_bytes und_string hi hz0 hz1 hz2 _ _ _ rfl ho2 x rfl ?c3 ?c4 ?c5 ?_)
          case c3 => unfold maxLen; omega
          case c4 => omega
          case c5 => omega
          intro v3 w3 ho3 hg3 _
          have R : Bs w3 w.heap.size v3 (q ++ textE z.data.toList) := by
            rw [HTP.out, ← List.append_assoc, ← HQ2.out]
            unfold Bs
            rw [List.length_append, cellsOf_append, ← Lib.size_eq, ← cellsOf_str]
            exact ho3
          rw [← HES.out] at R
          have hbel : Below w.heap.size w w3 := by
            refine (hbw.trans hb2).grown hg3 (by omega) ?_
            intro y hy
            rcases ho2.2 with ⟨h2, _⟩ | ⟨g, cap, cur, hv, hg, _⟩
            · rw [h2] at hy; simp [Value.ownBlock] at hy
            · rw [hv] at hy; simp [Value.ownBlock] at hy; omega
          clear ho3 hg3 ho2 hown
          go_wp2_with fail
          go_roundw
          case rel => exact ⟨j + 1, by omega, by go_num, R, hbel⟩
          case measure => simp [intOf]; omega
        · have hkk : zs.take j = zs := List.take_of_length_le (by omega)
          rw [hkk] at hown
          have HO := Lib.hid hown
          clear hown hkk
          go_wp2_with fail
          go_ret
          exact ⟨_, rfl, HO.out, hbw⟩
/-- One string. -/
theorem text_one (v : Value) (l : List UInt8) (z : ByteArray) (w : World) (h : Src w v l) (hl : l.length + 65537 ≤ 140737488355328) (hz : z.size ≤ maxLen) :
    Calls Tryd.prog 123 #[v, .slice (some ⟨w.heap.size, 0, none⟩) 1 1] (w.alloc (.cells #[.string z] 9)) fun e w' => ∃ v', e = .returned v' ∧ Bs w' w.heap.size v' (l ++ textE z.data.toList) ∧ Below w.heap.size w w' := by
  have h0 := (Below.refl w.heap.size w).alloc (Nat.le_refl _) (.cells #[.string z] 9)
  refine (text_list v l w.heap.size 0 1 [z] (w.alloc (.cells #[.string z] 9)) (h.below h0) (by simp) (by simpa using hl) ?_ ?_).mono ?_
  · intro j hj
    match j, hj with
    | 0, _ => exact hz
  · intro j hj
    match j, hj with
    | 0, _ => simp [World.cell?_alloc_at]
  · rintro e w' ⟨v', he, ho, hb⟩
    refine ⟨v', he, ?_, h0.trans (hb.mono (by simp))⟩
    have := ho.mono (C := w.heap.size) (by simp)
    simpa [textsE] using this
end
section
set_option linter.unusedVariables false

theorem be_succ (k n : Nat) : be (k + 1) n = UInt8.ofNat (n / 256 ^ k) :: be k n := by
  unfold be
  rw [List.range_succ_eq_map, List.map_cons, List.map_map]
  congr 1
  apply List.map_congr_left
  intro i hi
  show UInt8.ofNat (n / 256 ^ (k + 1 - 1 - (i + 1))) = UInt8.ofNat (n / 256 ^ (k - 1 - i))
  rw [show k + 1 - 1 - (i + 1) = k - 1 - i by omega]
theorem be_zero (n : Nat) : be 0 n = [] := rfl
theorem ofNat_mod (a b : Nat) (h : a % 256 = b % 256) : UInt8.ofNat a = UInt8.ofNat b := by
  apply UInt8.toNat_inj.1
  rw [UInt8.toNat_ofNat', UInt8.toNat_ofNat']
  exact h
theorem be_add (k m n : Nat) : be k (m * 256 ^ k + n) = be k n := by
  induction k generalizing m with
  | zero => rfl
  | succ k ih =>
    rw [be_succ, be_succ]
    have e : m * 256 ^ (k + 1) + n = (m * 256) * 256 ^ k + n := by rw [Nat.pow_succ, Nat.mul_assoc, Nat.mul_comm 256]
    rw [e, ih (m * 256)]
    congr 1
    apply ofNat_mod
    have hp : 0 < 256 ^ k := Nat.pow_pos (by omega)
    rw [Nat.add_comm, Nat.add_mul_div_right _ _ hp]
    omega
theorem val_cons (c : UInt8) (l : List UInt8) : val (c :: l) = c.toNat * 256 ^ l.length + val l := by
  have h : ∀ (l : List UInt8) (a : Nat), l.foldl (fun a c => a * 256 + c.toNat) a = a * 256 ^ l.length + val l := by
    intro l
    induction l with
    | nil => intro a; simp [val]
    | cons d l ih =>
      intro a
      unfold val
      rw [List.foldl_cons, List.foldl_cons, ih (a * 256 + d.toNat), ih (0 * 256 + d.toNat), List.length_cons, Nat.pow_succ]
      rw [Nat.add_mul, Nat.zero_mul, Nat.mul_comm (256 ^ l.length) 256, ← Nat.mul_assoc, Nat.zero_add, Nat.add_assoc]
  show (c :: l).foldl (fun a c => a * 256 + c.toNat) 0 = _
  rw [List.foldl_cons, h]
  simp
theorem val_be (k n : Nat) : val (be k n) = n % 256 ^ k := by
  induction k with
  | zero => rw [be_zero, Nat.pow_zero, Nat.mod_one]; rfl
  | succ k ih =>
    rw [be_succ, val_cons, be_length, ih, UInt8.toNat_ofNat']
    have hp : 0 < 256 ^ k := Nat.pow_pos (by omega)
    have hm : n % (256 ^ k * 256) = n % 256 ^ k + 256 ^ k * (n / 256 ^ k % 256) := Nat.mod_mul
    show n / 256 ^ k % 256 * 256 ^ k + n % 256 ^ k = n % 256 ^ (k + 1)
    rw [Nat.pow_succ, hm, Nat.mul_comm (256 ^ k), Nat.add_comm]
theorem val_be_lt (k n : Nat) (h : n < 256 ^ k) : val (be k n) = n := by rw [val_be, Nat.mod_eq_of_lt h]
theorem be_val (l : List UInt8) : be l.length (val l) = l := by
  induction l with
  | nil => rfl
  | cons c l ih =>
    rw [List.length_cons, be_succ, val_cons, be_add, ih]
    congr 1
    have hv := val_lt l
    have hp : 0 < 256 ^ l.length := Nat.pow_pos (by omega)
    rw [Nat.mul_comm, Nat.mul_add_div hp, Nat.div_eq_of_lt hv, Nat.add_zero]
    simp
theorem be_less (k c d : Nat) (hc : c < 256 ^ k) (hd : d < 256 ^ k) : Op.bytesLess (be k c) (be k d) = decide (c < d) := by
  induction k generalizing c d with
  | zero =>
    have : c = 0 := by simp at hc; omega
    have : d = 0 := by simp at hd; omega
    subst_vars
    simp [be_zero, Op.bytesLess]
  | succ k ih =>
    have hp : 0 < 256 ^ k := Nat.pow_pos (by omega)
    have e1 := Nat.div_add_mod c (256 ^ k)
    have e2 := Nat.div_add_mod d (256 ^ k)
    have b1 : be k c = be k (c % 256 ^ k) := by
      have := be_add k (c / 256 ^ k) (c % 256 ^ k)
      rwa [Nat.mul_comm, e1] at this
    have b2 : be k d = be k (d % 256 ^ k) := by
      have := be_add k (d / 256 ^ k) (d % 256 ^ k)
      rwa [Nat.mul_comm, e2] at this
    have q1 : c / 256 ^ k < 256 := Nat.div_lt_of_lt_mul (by rw [Nat.pow_succ] at hc; exact hc)
    have q2 : d / 256 ^ k < 256 := Nat.div_lt_of_lt_mul (by rw [Nat.pow_succ] at hd; exact hd)
    rw [be_succ, be_succ, b1, b2, Op.bytesLess, ih _ _ (Nat.mod_lt _ hp) (Nat.mod_lt _ hp)]
    have r1 := Nat.mod_lt c hp
    have r2 := Nat.mod_lt d hp
    have l1 : (UInt8.ofNat (c / 256 ^ k) < UInt8.ofNat (d / 256 ^ k)) ↔ c / 256 ^ k < d / 256 ^ k := by
      rw [UInt8.lt_iff_toNat_lt, UInt8.toNat_ofNat', UInt8.toNat_ofNat', Nat.mod_eq_of_lt q1, Nat.mod_eq_of_lt q2]
    have l2 : (UInt8.ofNat (c / 256 ^ k) = UInt8.ofNat (d / 256 ^ k)) ↔ c / 256 ^ k = d / 256 ^ k := by
      rw [← UInt8.toNat_inj, UInt8.toNat_ofNat', UInt8.toNat_ofNat', Nat.mod_eq_of_lt q1, Nat.mod_eq_of_lt q2]
    rw [Bool.eq_iff_iff]
    simp only [Bool.or_eq_true, decide_eq_true_eq, Bool.and_eq_true, beq_iff_eq, l1, l2]
    generalize c / 256 ^ k = x at *
    generalize d / 256 ^ k = y at *
    generalize c % 256 ^ k = u at *
    generalize d % 256 ^ k = v at *
    generalize 256 ^ k = q at *
    constructor
    · rintro (h | ⟨h, h2⟩)
      · have : q * (x + 1) ≤ q * y := Nat.mul_le_mul_left q h
        rw [Nat.mul_add, Nat.mul_one] at this
        omega
      · subst h; omega
    · intro h
      rcases Nat.lt_trichotomy x y with h1 | h1 | h1
      · exact .inl h1
      · subst h1; exact .inr ⟨rfl, by omega⟩
      · exfalso
        have : q * (y + 1) ≤ q * x := Nat.mul_le_mul_left q h1
        rw [Nat.mul_add, Nat.mul_one] at this
        omega
theorem be_inj (k c d : Nat) (hc : c < 256 ^ k) (hd : d < 256 ^ k) : (be k c == be k d) = decide (c = d) := by
  rw [Bool.eq_iff_iff]
  simp only [beq_iff_eq, decide_eq_true_eq]
  constructor
  · intro h
    have := congrArg val h
    rwa [val_be_lt k c hc, val_be_lt k d hd] at this
  · rintro rfl; rfl
end
section
set_option linter.unusedVariables false

theorem numF_def (n : Nat) (most : Int) (l : List UInt8) : numF n most (some l) = if l.length < n ∨ most < (val (l.take n) : Int) then (0, none) else ((val (l.take n) : Int), some (l.drop n)) := rfl
theorem takeF_def (n : Nat) (l : List UInt8) : takeF n (some l) = if l.length < n then ([], none) else (l.take n, some (l.drop n)) := rfl
theorem numF_be (k n : Nat) (most : Int) (l : List UInt8) (hn : n < 256 ^ k) : numF k most (some (be k n ++ l)) = if (n : Int) ≤ most then ((n : Int), some l) else (0, none) := by
  have h1 : (be k n ++ l).take k = be k n := List.take_left' (be_length k n)
  have h2 : (be k n ++ l).drop k = l := List.drop_left' (be_length k n)
  have h3 : ¬ (be k n ++ l).length < k := by rw [List.length_append, be_length]; omega
  rw [numF_def, h1, h2, val_be_lt k n hn]
  simp only [h3, false_or]
  by_cases h : (n : Int) ≤ most
  · rw [if_neg (by omega), if_pos h]
  · rw [if_pos (by omega), if_neg h]
theorem takeF_app (m l : List UInt8) : takeF m.length (some (m ++ l)) = (m, some l) := by
  rw [takeF_def, if_neg (by simp), List.take_left' rfl, List.drop_left' rfl]
theorem textE_short (m : List UInt8) (hm : m.length ≤ 65535) : textE m = be 2 m.length ++ m := by unfold textE; rw [List.take_of_length_le hm]
theorem textF_E (m l : List UInt8) (most : Int) (hm : m.length ≤ 65535) : textF most (some (textE m ++ l)) = if (m.length : Int) ≤ most then (m, some l) else ([], none) := by
  unfold textF
  rw [textE_short m hm, List.append_assoc, numF_be 2 m.length most (m ++ l) (by omega)]
  by_cases h : (m.length : Int) ≤ most
  · rw [if_pos h, if_pos h]
    exact takeF_app m l
  · rw [if_neg h, if_neg h]
    rfl
theorem numF_some {k : Nat} {most v : Int} {l l' : List UInt8} (h : numF k most (some l) = (v, some l')) : 0 ≤ v ∧ v ≤ most ∧ v.toNat < 256 ^ k ∧ l = be k v.toNat ++ l' := by
  rw [numF_def] at h
  by_cases hc : l.length < k ∨ most < (val (l.take k) : Int)
  · rw [if_pos hc] at h; simp at h
  · rw [if_neg hc] at h
    simp only [Prod.mk.injEq, Option.some.injEq] at h
    obtain ⟨rfl, rfl⟩ := h
    have hk : (l.take k).length = k := by rw [List.length_take]; omega
    have hv := val_lt (l.take k)
    rw [hk] at hv
    have hb := be_val (l.take k)
    rw [hk] at hb
    refine ⟨by omega, by omega, by simpa using hv, ?_⟩
    rw [Int.toNat_natCast, hb, List.take_append_drop]
theorem textF_some {most : Int} {m l l' : List UInt8} (h : textF most (some l) = (m, some l')) : (m.length : Int) ≤ most ∧ m.length ≤ 65535 ∧ l = textE m ++ l' := by
  unfold textF at h
  cases hq : numF 2 most (some l) with
  | mk v st =>
    rw [hq] at h
    cases st with
    | none => simp [takeF] at h
    | some l2 =>
      obtain ⟨h0, h1, h2, h3⟩ := numF_some hq
      simp only [takeF_def] at h
      by_cases hl : l2.length < v.toNat
      · simp only [hl, if_true] at h; simp at h
      · simp only [hl, if_false] at h
        simp only [Prod.mk.injEq, Option.some.injEq] at h
        obtain ⟨rfl, rfl⟩ := h
        have hk : (l2.take v.toNat).length = v.toNat := by rw [List.length_take]; omega
        refine ⟨by rw [hk]; omega, by rw [hk]; omega, ?_⟩
        rw [textE_short _ (by rw [hk]; omega), hk, List.append_assoc, List.take_append_drop, h3]
end
end Go.Proofs.YtiknfifiglooeaaDoor
