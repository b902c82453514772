/- SumParts: however a text of at most 300 bytes is cut (into at most 11 parts), the checksum of its parts is that of the whole; no condition on the input (the two tables start as the program's text lays them). -/
import Derived.Test.YtefofhejaafgnaaDoorSumMath
import Derived.Laws.AppendOwn
import Derived.OwnWalk
import Derived.Test.YtefofhejaafgnaaDoorCards
import Derived.Test.YtefofhejaafgnaaDoorTie
import Derived.ProofKit
import Derived.OpenShut
import Derived.ShutString
import Derived.ChangeOld
import Derived.Deep.DeepHandedRow
import Derived.Lib.LaidTab
import Derived.Stop.LaidErr
namespace Go.Proofs.YtefofhejaafgnaaDoor.sumParts
open Go.ChangeShapes Go.WideShapes Go.ChangeAt Go.RowKit
open Go.ChangeMaps (open_string shut_string)
set_option linter.unusedVariables false

/-- The slice of integers that came in. -/
def IsRow (k : IntKind) (w : World) (a : Option Addr) (len cap : Nat) (zs : List Int) : Prop :=
  (a = none ∧ len = 0 ∧ cap = 0 ∧ zs = []) ∨
  ∃ x, a = some x ∧ len ≤ cap ∧ cap ≤ maxLen ∧ zs.length = cap ∧ (∀ i, i < zs.length → w.cell? (x.add i) = some (.int k (zs.getD i 0))) ∧ ∀ n ∈ zs, (Lit.int k n).wf = true

theorem i64_and65535 (n : Int) : bits .and .i64 n 65535 = n % 65536 := by
  have h127 : (BitVec.ofInt 64 65535).toNat = 2 ^ 16 - 1 := by decide
  have key : (BitVec.ofInt 64 n &&& BitVec.ofInt 64 65535).toNat = (n % ((2 ^ 64 : Nat) : Int)).toNat % 2 ^ 16 := by
    rw [BitVec.toNat_and, BitVec.toNat_ofInt, h127, Nat.and_two_pow_sub_one_eq_mod]
  show IntKind.i64.wrap ((BitVec.ofInt 64 n &&& BitVec.ofInt 64 65535).toNat : Nat) = n % 65536
  rw [key, IntKind.wrap_i64]
  omega
theorem info_str : (Tryd.prog.info? 9).map (fun i => (i.zero, i.size, i.bytes)) = some (some (.string ⟨#[]⟩), 1, 16) := by kernel_rfl
theorem und_strs : Tryd.prog.underlying 29 = some (.slice 9) := by kernel_rfl
/-- The slice value v holds the strings L, in a row of the call's own. -/
def Ss (w : World) (B : Nat) (v : Value) (L : List ByteArray) : Prop := w.ownsRow B 9 1 v L.length (L.map Value.string)
theorem Ss.below {w w' : World} {B : Nat} {v : Value} {L : List ByteArray} (h : Ss w B v L) (k : Below w.heap.size w w') : Ss w' B v L := by
  obtain ⟨h1, h2⟩ := h
  refine ⟨h1, ?_⟩
  rcases h2 with h2 | ⟨g, cap, cur, hv, hg, hh, r⟩
  · exact .inl h2
  · exact .inr ⟨g, cap, cur, hv, hg, (k.block g (lt_of_block hh)).trans hh, r⟩
theorem Ss.shape {w : World} {B : Nat} {v : Value} {L : List ByteArray} (h : Ss w B v L) : ∃ a1 b cap, v = .slice a1 L.length cap ∧ (0 < L.length → a1 = some ⟨b, 0, none⟩ ∧ b < w.heap.size) ∧ ∀ j, j < L.length → w.cell? ⟨b, 0 + j, none⟩ = some (.string (L.getD j ByteArray.empty)) := by
  obtain ⟨h1, h2⟩ := h
  rcases h2 with ⟨rfl, h3⟩ | ⟨g, cap, cur, rfl, hg, hh, hc1, hc2, hc3, hc4⟩
  · exact ⟨none, 0, 0, by rw [h3], fun h => absurd h (by omega), fun j hj => absurd hj (by omega)⟩
  · refine ⟨_, g, cap, rfl, fun _ => ⟨rfl, lt_of_block hh⟩, fun j hj => ?_⟩
    have hx : (L.map Value.string)[j]? = some (.string (L.getD j ByteArray.empty)) := by simp [hj]
    rw [← hc4, List.getElem?_take] at hx
    simp only [Nat.mul_one, hj, if_true] at hx
    rw [Nat.zero_add]
    simp only [World.cell?, hh]
    simpa using hx
theorem Ss.own {w : World} {B : Nat} {v : Value} {L : List ByteArray} (h : Ss w B v L) : ∀ y, v.ownBlock = some y → B ≤ y := by
  intro y hy
  rcases h.2 with ⟨h2, _⟩ | ⟨g, cap, cur, hv, hg, _⟩
  · rw [h2] at hy; simp [Value.ownBlock] at hy
  · rw [hv] at hy; simp [Value.ownBlock] at hy; omega
theorem new_str (w : World) (c : ByteArray) (j : Nat) (u : Value) (hj : [Value.string c][j]? = some u) :
    (w.alloc (.cells #[.string c] 9)).cell? ((⟨w.heap.size, 0, none⟩ : Addr).add j) = some u := by
  match j, hj with
  | 0, hj => simp at hj; subst hj; simp [Addr.add]
theorem new_str_one (c : ByteArray) : ∀ u ∈ [Value.string c], u.oneCell' = true := by
  intro u hu; simp at hu; subst hu; rfl
theorem catN_one (L : List ByteArray) (s : ByteArray) : catN (L ++ [s]) = catN L ++ s.data.toList := by simp [catN]

set_option maxHeartbeats 1000000 in
theorem walk_long (a0 : ByteArray) (a1 : Option Addr) (len1 cap1 : Nat) (w : World) (w0 : a0.size ≤ maxLen) (hl : 300 < a0.size ∨ 10 < len1) (hcap : len1 ≤ maxLen) (hT : Tabs w) :
    Calls Tryd.prog 4 #[.string a0, .slice a1 len1 cap1] w fun e w' => e = .returned (.bool true) ∧ Below w.heap.size w w' := by
  unfold maxLen at w0 hcap
  have HT := Lib.hid hT
  clear hT
  by_cases h1 : 300 < a0.size
  · have hd : decide ((300 : Int) < (a0.size : Int)) = true := by simp; omega
    clear hl
    go_enter Tryd.func4, Tryd.ntmps4
    go_wp2_with (go_at_call 8; refine (head_any _ HT.out).mono ?_; rintro e w1 ⟨rfl, hb⟩)
    go_ret
    exact ⟨rfl, hb⟩
  · have hd : decide ((300 : Int) < (a0.size : Int)) = false := by simp; omega
    have hd2 : decide ((10 : Int) < (len1 : Int)) = true := by simp; omega
    clear hl
    go_enter Tryd.func4, Tryd.ntmps4
    go_wp2_with (go_at_call 8; refine (head_any _ HT.out).mono ?_; rintro e w1 ⟨rfl, hb⟩)
    go_ret
    exact ⟨rfl, hb⟩

set_option maxHeartbeats 4000000 in
theorem walk_some (a0 : ByteArray) (b off len1 cap1 : Nat) (zs : List Int) (w : World) (h0 : a0.size ≤ 300) (h1 : len1 ≤ 10) (hzl : len1 ≤ zs.length) (hbw : 0 < len1 → b < w.heap.size)
    (hc : ∀ j, j < len1 → w.cell? ⟨b, off + j, none⟩ = some (.int .i64 (zs.getD j 0))) (a1 : Option Addr) (ha1 : 0 < len1 → a1 = some ⟨b, off, none⟩) (hT : Tabs w) :
    Calls Tryd.prog 4 #[.string a0, .slice a1 len1 cap1] w fun e w' => e = .returned (.bool true) ∧ Below w.heap.size w w' := by
  obtain ⟨i0, hi, hz0, hz1, hz2⟩ := info_parts info_str
  have hd : decide ((300 : Int) < (a0.size : Int)) = false := by simp; omega
  have hd2 : decide ((10 : Int) < (len1 : Int)) = false := by simp; omega
  have HT := Lib.hid hT
  have HC := Lib.hid hc
  have HA := Lib.hid ha1
  have HB := Lib.hid hbw
  clear hc ha1 hbw hT
  go_enter Tryd.func4, Tryd.ntmps4
  go_wp2_with (go_at_call 8; refine (head_any _ HT.out).mono ?_; rintro e w1 ⟨rfl, hb1⟩)
  have hb2 := hb1.alloc hb1.size (.cells #[] 9)
  have hs2 : Ss (w1.alloc (.cells #[] 9)) w.heap.size (.slice (some ⟨w1.heap.size, 0, none⟩) 0 0) [] :=
    ⟨rfl, .inr ⟨w1.heap.size, 0, #[], rfl, hb1.size, heap_alloc_new w1 _, Nat.le_refl _, by unfold maxLen; omega, rfl, rfl⟩⟩
  refine (of_none none 0 _ (HT.out.below hb2)).mono ?_
  rintro e w3 ⟨rfl, hb3'⟩
  have hb3 := hb2.trans (hb3'.mono hb2.size)
  have hs3 := hs2.below hb3'
  clear hb1 hb2 hs2 hb3'
  go_wp2_with fail
  go_loopw [5, 6, 7, 26] (fun v s x i wr => ∃ (k r : Nat) (t : ByteArray) (L : List ByteArray), k ≤ len1 ∧ r < 4294967296 ∧ t.size ≤ 300 ∧ i = .int .i64 k ∧ s = .string t ∧ x = .int .u32 (r : Int) ∧ Ss wr w.heap.size v L ∧ L.length ≤ k ∧
    Hid (r = addN 0 (catN L) ∧ catN L ++ t.data.toList = a0.data.toList ∧ ∀ j, j < L.length → (L.getD j ByteArray.empty).size ≤ 300) ∧ Below w.heap.size w wr) (fun _ _ _ i _ => len1 - (intOf i).toNat)
  case atStart => exact ⟨0, 0, a0, [], Nat.zero_le _, by omega, h0, rfl, rfl, rfl, hs3, Nat.le_refl _, ⟨rfl, rfl, fun j hj => absurd hj (by simp)⟩, hb3⟩
  case round =>
    obtain ⟨k, r, t, L, hk, hr, ht, rfl, rfl, rfl, hown, hLk, HJ, hbw⟩ := hrel
    clear hs3 hb3
    by_cases hlt : k < len1
    · have hcell : wr.cell? ⟨b, off + k, none⟩ = some (.int .i64 (zs.getD k 0)) := (hbw.cell (p := ⟨b, off + k, none⟩) (HB.out (by omega))).trans (HC.out k hlt)
      have ha := HA.out (by omega)
      subst ha
      generalize zs.getD k 0 = z at *
      have hand := i64_and65535
      obtain ⟨n, hn⟩ : ∃ n : Nat, (n : Int) = z % 65536 % ((t.size : Int) + 1) := ⟨(z % 65536 % ((t.size : Int) + 1)).toNat, Int.toNat_of_nonneg (Int.emod_nonneg _ (by omega))⟩
      have hnt : n ≤ t.size := by
        have := Int.emod_lt_of_pos (z % 65536) (show (0 : Int) < (t.size : Int) + 1 by omega)
        omega
      have hmod : z % 65536 % ((t.size : Int) + 1) = (n : Int) := hn.symm
      have hmod0 : 0 ≤ z % 65536 := Int.emod_nonneg _ (by omega)
      have hmod1 : z % 65536 < 65536 := Int.emod_lt_of_pos _ (by omega)
      obtain ⟨s, hs⟩ : ∃ s, s = t.extract 0 n := ⟨_, rfl⟩
      obtain ⟨t2, ht2⟩ : ∃ t2, t2 = t.extract n t.size := ⟨_, rfl⟩
      have hss : s.size ≤ 300 := by rw [hs]; simp; omega
      have ht2s : t2.size ≤ 300 := by rw [ht2]; simp; omega
      have HJ2 : Hid (addN r s.data.toList = addN 0 (catN (L ++ [s])) ∧ catN (L ++ [s]) ++ t2.data.toList = a0.data.toList ∧ ∀ j, j < (L ++ [s]).length → ((L ++ [s]).getD j ByteArray.empty).size ≤ 300) := by
        obtain ⟨j1, j2, j3⟩ := HJ.out
        refine ⟨by rw [catN_one, add_append, j1], ?_, fun j hj => ?_⟩
        · rw [catN_one, List.append_assoc, ← j2]
          congr 1
          rw [hs, ht2, Lib.extract_data, Lib.extract_data, List.drop_zero, Nat.sub_zero, List.take_of_length_le (l := t.data.toList.drop n) (by rw [List.length_drop, ← Lib.size_eq]; exact Nat.le_refl _), List.take_append_drop]
        · by_cases hjl : j < L.length
          · rw [show (L ++ [s]).getD j ByteArray.empty = L.getD j ByteArray.empty by simp [List.getElem?_append_left hjl]]; exact j3 j hjl
          · have : j = L.length := by simp at hj; omega
            subst this
            simp
            exact hss
      have hr2 := addN_lt r s.data.toList hr
      have HSX := Lib.hid hs
      have HTX := Lib.hid ht2
      have HN := Lib.hid (new_str wr s)
      have HI := Lib.hid (new_str_one s)
      have hsz := hbw.size
      have HBS := Lib.hid (show w.heap.size ≤ (wr.alloc (.cells #[.string s] 9)).heap.size by simp; omega)
      have H63 := Lib.hid (show L.length + 1 ≤ maxLen by unfold maxLen; omega)
      have H47 := Lib.hid (show (L.length + 1) * 16 ≤ 140737488355328 by omega)
      have HADD := Lib.hid (fun (W : World) (N : Nat) (hN : N = W.heap.size) (hW : Tabs W) => add_one r s W N hN hr hW (by unfold maxLen; omega))
      generalize addN r s.data.toList = r2 at *
      have hse : t.extract 0 n = s := hs.symm
      have hte : t.extract n t.size = t2 := ht2.symm
      clear hn hs ht2 HJ
      go_wp2_with (at_builtin; refine wpList_append_own _ rfl _ _ 29 rfl w.heap.size 9 i0 (.string ⟨#[]⟩) 1 16 und_strs hi hz0 hz1 hz2 rfl (by decide) _ _ _ rfl (hown.alloc _) ⟨wr.heap.size, 0, none⟩ 1 1 [.string s] rfl rfl HN.out HI.out H63.out H47.out HBS.out ?_)
      intro v' w4 ho4 hg4 _
      have hs4 : Ss w4 w.heap.size v' (L ++ [s]) := by
        unfold Ss
        rw [List.length_append, List.map_append]
        exact ho4
      have hb4 : Below w.heap.size w w4 := (hbw.alloc hsz _).grown hg4 (by simp; omega) (Ss.own hown)
      clear ho4 hg4 hown hcell
      go_wp2_with fail
      refine (HADD.out _ _ rfl (HT.out.below hb4)).mono ?_
      rintro e w5 ⟨rfl, hb5'⟩
      have hb5 := hb4.trans (hb5'.mono hb4.size)
      have hs5 := hs4.below hb5'
      clear hb4 hs4 hb5' hbw
      go_wp2_with fail
      go_roundw
      case rel => exact ⟨k + 1, r2, t2, L ++ [s], by omega, hr2, ht2s, by go_num, rfl, rfl, hs5, by simp; omega, HJ2, hb5⟩
      case measure => simp [intOf]; omega
    · obtain ⟨R, hR⟩ : ∃ R, R = addN 0 a0.data.toList := ⟨_, rfl⟩
      have hR1 : addN 0 (catN (L ++ [t])) = R := by
        obtain ⟨j1, j2, j3⟩ := HJ.out
        rw [catN_one, j2, hR]
      have hR2 : addN r t.data.toList = R := by
        obtain ⟨j1, j2, j3⟩ := HJ.out
        rw [j1, ← add_append, j2, hR]
      have hsz := hbw.size
      have HN := Lib.hid (new_str wr t)
      have HI := Lib.hid (new_str_one t)
      have HBS := Lib.hid (show w.heap.size ≤ (wr.alloc (.cells #[.string t] 9)).heap.size by simp; omega)
      have H63 := Lib.hid (show L.length + 1 ≤ maxLen by unfold maxLen; omega)
      have H47 := Lib.hid (show (L.length + 1) * 16 ≤ 140737488355328 by omega)
      have HADD := Lib.hid (fun (W : World) (N : Nat) (hN : N = W.heap.size) (hW : Tabs W) => add_one r t W N hN hr hW (by unfold maxLen; omega))
      have HOF := Lib.hid (fun (W : World) (N : Nat) (hN : N = W.heap.size) (hW : Tabs W) => of_one a0 W N hN hW (by unfold maxLen; omega))
      rw [hR2] at HADD
      rw [← hR] at HOF
      have HLS : Hid (∀ j, j < (L ++ [t]).length → ((L ++ [t]).getD j ByteArray.empty).size ≤ maxLen) := fun j hj => by
        obtain ⟨j1, j2, j3⟩ := HJ.out
        unfold maxLen
        by_cases hjl : j < L.length
        · rw [show (L ++ [t]).getD j ByteArray.empty = L.getD j ByteArray.empty by simp [List.getElem?_append_left hjl]]
          have := j3 j hjl
          omega
        · have : j = L.length := by simp at hj; omega
          subst this
          simp
          omega
      have HR1 := Lib.hid hR1
      clear hR hR1 hR2 HJ
      go_wp2_with (at_builtin; refine wpList_append_own _ rfl _ _ 29 rfl w.heap.size 9 i0 (.string ⟨#[]⟩) 1 16 und_strs hi hz0 hz1 hz2 rfl (by decide) _ _ _ rfl (hown.alloc _) ⟨wr.heap.size, 0, none⟩ 1 1 [.string t] rfl rfl HN.out HI.out H63.out H47.out HBS.out ?_)
      intro v' w4 ho4 hg4 _
      have hs4 : Ss w4 w.heap.size v' (L ++ [t]) := by
        unfold Ss
        rw [List.length_append, List.map_append]
        exact ho4
      have hb4 : Below w.heap.size w w4 := (hbw.alloc hsz _).grown hg4 (by simp; omega) (Ss.own hown)
      obtain ⟨a9, b9, c9, rfl, hq1, hq2⟩ := hs4.shape
      have HQ := Lib.hid (of_any a9 b9 0 c9 (L ++ [t]) w4 (HT.out.below hb4) hq1 (by simp; omega) HLS.out hq2)
      rw [HR1.out, show (L ++ [t]).length = L.length + 1 by simp] at HQ
      clear ho4 hg4 hown hs4 hq1 hq2 hbw
      go_wp2_with fail
      refine HQ.out.mono ?_
      rintro e w5 ⟨rfl, hb5'⟩
      have hb5 := hb4.trans (hb5'.mono hb4.size)
      clear hb5' hb4 HQ
      go_wp2_with fail
      refine (HOF.out _ _ rfl (HT.out.below hb5)).mono ?_
      rintro e w6 ⟨rfl, hb6'⟩
      have hb6 := hb5.trans (hb6'.mono hb5.size)
      clear hb6' hb5
      go_wp2_with fail
      refine (HADD.out _ _ rfl (HT.out.below hb6)).mono ?_
      rintro e w7 ⟨rfl, hb7'⟩
      have hb7 := hb6.trans (hb7'.mono hb6.size)
      clear hb7' hb6
      go_wp2_with fail
      refine (HOF.out _ _ rfl (HT.out.below hb7)).mono ?_
      rintro e w8 ⟨rfl, hb8'⟩
      have hb8 := hb7.trans (hb8'.mono hb7.size)
      go_wp2_with fail
      go_ret
      exact ⟨rfl, hb8⟩

theorem walk (a0 : ByteArray) (a1 : Option Addr) (len1 cap1 : Nat) (z1 : List Int) (w : World) (w0 : a0.size ≤ maxLen) (w1 : IsRow .i64 w a1 len1 cap1 z1) (hT : Tabs w) :
    Calls Tryd.prog 4 #[.string a0, .slice a1 len1 cap1] w fun e w' => e = .returned (.bool true) ∧ Below w.heap.size w w' := by
  by_cases hl : 300 < a0.size ∨ 10 < len1
  · refine walk_long a0 a1 len1 cap1 w w0 hl ?_ hT
    rcases w1 with ⟨_, rfl, _, _⟩ | ⟨x, _, h1, h2, _⟩
    · unfold maxLen; omega
    · omega
  · by_cases hz : len1 = 0
    · exact walk_some a0 0 0 len1 cap1 [] w (by omega) (by omega) (by simp [hz]) (by omega) (by omega) a1 (by omega) hT
    · rcases w1 with ⟨_, h, _, _⟩ | ⟨x, rfl, h1, h2, h3, h4, h5⟩
      · exact absurd h hz
      · obtain ⟨b, off, rfl, hc⟩ := ints_at h4 (by omega)
        refine walk_some a0 b off len1 cap1 z1 w (by omega) (by omega) (by omega) (fun _ => ?_) (fun j hj => hc j (by omega)) _ (fun _ => rfl) hT
        exact World.block_lt_of_cell? w _ (hc 0 (by omega))

theorem own : ownKnob Tryd.prog.godebug = none := by kernel_rfl
theorem laidOut : laidOutB Tryd.prog = true := by kernel_rfl
theorem gHi : Tryd.prog.globalNamed "orchard/sum.highTable" = some 0 := by kernel_rfl
theorem gLo : Tryd.prog.globalNamed "orchard/sum.lowTable" = some 1 := by kernel_rfl
theorem gHiType : (Tryd.prog.globals[0]?).map (·.type) = some 39 := by kernel_rfl
theorem gLoType : (Tryd.prog.globals[1]?).map (·.type) = some 39 := by kernel_rfl
theorem cellsTab : Tryd.prog.cellsOf 39 = 16 := by kernel_rfl
theorem cellsSum : Tryd.prog.cellsOf 24 = 1 := by kernel_rfl

theorem table_lo {W : World} (h : laidMetH Tryd.prog Rows.sumPartsRow.laid W) : Lib.TabIs Tryd.prog W "orchard/sum.lowTable" .u32 LO :=
  Lib.tabIs_of_head (rest := [("orchard/sum.highTable", Rows.laid_orchard_sum_highTable)]) gLo gLoType Tryd.underlying39 Tryd.underlying24 cellsSum cellsTab h
theorem table_hi {W : World} (h : laidMetH Tryd.prog Rows.sumPartsRow.laid W) : Lib.TabIs Tryd.prog W "orchard/sum.highTable" .u32 HI :=
  Lib.tabIs_of_head (rest := []) gHi gHiType Tryd.underlying39 Tryd.underlying24 cellsSum cellsTab (laidMet.tail (show laidMet Tryd.prog [("orchard/sum.lowTable", Rows.laid_orchard_sum_lowTable), ("orchard/sum.highTable", Rows.laid_orchard_sum_highTable)] W from h))
theorem tabs_of {W : World} (h : laidMetH Tryd.prog Rows.sumPartsRow.laid W) : Tabs W := by
  have c0 := fun (j : Nat) (hj : j < 16) => (table_hi h).cell gHi j hj
  have c1 := fun (j : Nat) (hj : j < 16) => (table_lo h).cell gLo j hj
  refine ⟨⟨World.block_lt_of_cell? W _ (c0 0 (by decide)), World.block_lt_of_cell? W _ (c1 0 (by decide))⟩, fun j hj => ?_, fun j hj => ?_⟩
  · rw [c0 j hj, hi_cast j]
  · rw [c1 j hj, lo_cast j]

theorem contract (H : Type) (enc : TypeId × Value → H) (W : World) (base : Nat) (args : Array Value) (ds gs : List (DataW H)) (before : List MemPlace)
    (hval : ∀ (j : Nat) t v, Tryd.f4.params[j]? = some t → args[j]? = some v → Value.okWide Tryd.prog W .any base t v)
    (hW : DataW.Whole enc Tryd.prog Tryd.f4.params.toList Rows.sumPartsSpec.vars false W args.toList ds gs before) (hL : laidMetH Tryd.prog Rows.sumPartsRow.laid W) :
    Calls Tryd.prog 4 args W fun e W' => ∃ v, e = .returned v ∧ Rows.sumPartsSpec.post enc Tryd.prog Tryd.f4 false true false false W args v W' := by
  have hT := tabs_of hL
  have hW' := hW
  obtain ⟨p, q, hA0, hV, rfl, hfz, hnd⟩ := hW
  have hA : DataW.TrodAll enc Tryd.prog W 0 (fun _ => true) true Tryd.f4.params.toList args.toList ds p := hA0
  rw [Tryd.params4] at hA hval
  obtain ⟨v0, vs0, d0, ds0, p0, q0, hargs, rfl, rfl, h0, r0⟩ := trodAll_cons hA
  obtain ⟨v1, vs1, d1, ds1, p1, q1, rfl, rfl, rfl, h1, r1⟩ := trodAll_cons r0
  obtain ⟨rfl, rfl, rfl⟩ := trodAll_nil r1
  obtain rfl : args = #[v0, v1] := by cases args; simp_all
  obtain ⟨rfl, rfl⟩ := trodVars_none hV
  obtain ⟨a0, rfl, rfl, rfl, w0⟩ := open_string Tryd.underlying9 (hval 0 9 v0 rfl rfl) h0
  obtain ⟨a1, len1, cap1, rfl⟩ := okWide_slice Tryd.underlying28 (hval 1 28 v1 rfl rfl)
  have k1 := h1
  have lt1 : ∀ x ∈ p1, x.block < W.heap.size := by obtain ⟨m, hm⟩ := k1; exact DataW.trod_lt m _ _ _ hm
  obtain ⟨z1, w1⟩ : ∃ zs, IsRow .i64 W a1 len1 cap1 zs := by
    obtain ⟨fuel, hf⟩ := h1
    rcases open_ints Tryd.underlying28 Tryd.underlying3 (by kernel_rfl) hf with ⟨hcs, _⟩ | ⟨x, l, c, zs, hcs, _, hl, hm, hz, _, hcell, hwz⟩
    · simp [Value.cells] at hcs
      obtain ⟨rfl, rfl, rfl⟩ := hcs
      exact ⟨[], .inl ⟨rfl, rfl, rfl, rfl⟩⟩
    · simp [Value.cells] at hcs
      obtain ⟨rfl, rfl, rfl⟩ := hcs
      exact ⟨zs, .inr ⟨_, rfl, hl, hm, by simpa using hz, hcell, hwz⟩⟩
  clear hA0
  refine (walk a0 a1 len1 cap1 z1 W w0 w1 hT).mono fun e W' ⟨he, bel⟩ => ?_
  subst he
  exact ⟨_, rfl, _, _, _, [], _, [], hW', trodAll_mk1 (shut_bool Tryd.underlying4 _), (trodAll_cons_mk (shut_string Tryd.underlying9 w0) (trodAll_cons_mk (Below.trod laidOut (by kernel_rfl) (of_decide_eq_true (by kernel_rfl)) k1 bel lt1) trodAll_mk0)), rfl, bel.frame _, fun h => by cases h⟩

def setTab (l : List Int) : Obj → Obj
  | .cells _ t frozen => .cells (l.map (Value.int .u32)).toArray t frozen
  | o => o
noncomputable def laidWorld (os : Os) : World :=
  { World.holding Tryd.prog os ⟨#[], #[], []⟩ with heap := ((World.holding Tryd.prog os ⟨#[], #[], []⟩).heap.modify 1 (setTab LO)).modify 0 (setTab HI) }
theorem laid_met (os : Os) : laidMet Tryd.prog Rows.sumPartsRow.laid ((laidWorld os).forCall (fun _ _ => 0) ⟨#[], #[.string ByteArray.empty, .slice none 0 0], []⟩).memory :=
  laidMet_of_run' 8 (by kernel_rfl) (by kernel_rfl)
theorem reads (os : Os) {H : Type} (enc : TypeId × Value → H) : ∃ places, DataW.whole enc Tryd.prog ((laidWorld os).forCall (fun _ _ => 0) ⟨#[], #[.string ByteArray.empty, .slice none 0 0], []⟩).memory Tryd.f4.params.toList Rows.sumPartsSpec.vars false #[Value.string ByteArray.empty, Value.slice none 0 0].toList 8 = some ([.lit (.string []), .nil], [], places) :=
  ⟨[], by kernel_rfl⟩

set_option maxRecDepth 100000 in
theorem lifted (os : Os) (started : os.Started) (H : Type) (enc : TypeId × Value → H) (F : Stop.Interp) :
    ReturnsInHanded {} Tryd.checked os 4 .any ((OpenSpec.ofChange Rows.sumPartsSpec).preRow enc Tryd.prog Tryd.f4 Rows.sumPartsRow.domain false Rows.sumPartsRow.laid) (((OpenSpec.ofChange Rows.sumPartsSpec).at F).post enc Tryd.prog Tryd.f4 false true false false) := by
  obtain ⟨places, hx⟩ := reads os enc
  refine returnsInHanded_of_row (C := Tryd.checked) (s := OpenSpec.ofChange Rows.sumPartsSpec) own started (by kernel_rfl) Tryd.func4
    (witness_row_at (enc := enc) (C := Tryd.checked) false (laidWorld os) #[.string ByteArray.empty, .slice none 0 0] rfl (by kernel_rfl) (by kernel_rfl) (by kernel_rfl)
      (OpenSpec.preRow_of_cond 8 hx (by kernel_rfl) (fun k hk => by cases hk) (by kernel_rfl) (laid_met os))) ?_
  intro W base args ds gs before hval hW _ _ _ hL _ _
  exact contract H enc W base args ds gs before hval hW hL

theorem said : Rows.SumPartsSaid :=
  OpenClaim.holds_of_cond 4 Tryd.f4 rfl rfl rfl rfl rfl rfl rfl ⟨rfl, rfl, rfl, rfl, rfl⟩ rfl rfl rfl rfl rfl (by kernel_rfl) Tryd.func4 (by kernel_rfl)
    (of_decide_eq_true (by kernel_rfl)) (by unfold Func.isWrapper; first | (rw [if_pos (by decide +kernel)]; kernel_rfl) | (rw [if_neg (by decide +kernel)]; exact ⟨rfl, rfl⟩))
    (fun os started H enc _ F => by rw [OpenClaim.pre_eq_preRow]; exact lifted os started H enc F)

theorem plain (f : FuncId) (fn : Func) (hf : Tryd.pinned.checked.prog.funcNamed "orchard/orchardlaw02.SumParts" = some f) (hfn : Tryd.pinned.checked.prog.funcs[f]? = some fn) :
    false = Tryd.pinned.checked.prog.looks [] ∧ ∀ (j : Nat) t, fn.params[j]? = some t → Tryd.pinned.checked.prog.wantsStandIn t = false := by
  obtain rfl : f = 4 := Option.some.inj ((show Tryd.prog.funcNamed "orchard/orchardlaw02.SumParts" = some 4 by kernel_rfl).symm.trans hf) |>.symm
  obtain rfl : fn = Tryd.f4 := (Option.some.inj (Tryd.func4.symm.trans hfn)).symm
  refine ⟨by kernel_rfl, fun j t ht => ?_⟩
  rw [Tryd.params4] at ht
  have hm := Array.mem_of_getElem? ht
  simp at hm
  rcases hm with rfl | rfl
  · exact (show Tryd.prog.wantsStandIn 9 = false by kernel_rfl)
  · exact (show Tryd.prog.wantsStandIn 28 = false by kernel_rfl)

theorem card : Rows.SumPartsCardSaid :=
  Claim7.holds_tied_plain_at .later [] _ _ _ _ said (fun _ h => by cases h) (by kernel_rfl) (fun _ h => by cases h) sumParts_row_tie rfl ⟨rfl, rfl⟩ (by kernel_rfl) rfl plain (by kernel_rfl)
end Go.Proofs.YtefofhejaafgnaaDoor.sumParts
