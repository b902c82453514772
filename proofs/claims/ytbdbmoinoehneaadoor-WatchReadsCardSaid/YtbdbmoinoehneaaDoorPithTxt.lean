/- Package pith's Text and Flag. -/
import Derived.Test.YtbdbmoinoehneaaDoorPithNum
namespace Go.Proofs.YtbdbmoinoehneaaDoor
open Go.RowKit
set_option linter.unusedVariables false
set_option maxRecDepth 100000

/-- A string's bytes: its length in two bytes, and (at most 65535 of) its bytes. -/
def textE (l : List UInt8) : List UInt8 := be 2 (l.take 65535).length ++ l.take 65535
def textsE (ss : List ByteArray) : List UInt8 := ss.flatMap fun s => textE s.data.toList
theorem textE_length (l : List UInt8) : (textE l).length ≤ 65537 := by
  unfold textE; rw [List.length_append, be_length, List.length_take]; omega
theorem textsE_length (ss : List ByteArray) : (textsE ss).length ≤ 65537 * ss.length := by
  induction ss with
  | nil => exact Nat.le_refl 0
  | cons z zs ih => rw [textsE, List.flatMap_cons, List.length_append, List.length_cons]; have := textE_length z.data.toList; unfold textsE at ih; omega
theorem textsE_snoc (zs : List ByteArray) (k : Nat) (h : k < zs.length) : textsE (zs.take (k + 1)) = textsE (zs.take k) ++ textE (zs.getD k ByteArray.empty).data.toList := by
  rw [take_snoc_getD zs ByteArray.empty k h, textsE, List.flatMap_append]; simp [textsE]
theorem textE_parts (s : ByteArray) (n : Nat) (hn : n = min s.size 65535) : textE s.data.toList = be 2 n ++ (s.extract 0 n).data.toList := by
  have h : s.data.toList.take 65535 = (s.extract 0 n).data.toList := by
    rw [Lib.extract_data, List.drop_zero, Nat.sub_zero]
    by_cases hs : s.size ≤ 65535
    · rw [List.take_of_length_le (by simpa using hs), List.take_of_length_le (by rw [hn]; simp; omega)]
    · rw [show n = 65535 by omega]
  unfold textE
  rw [h]
  congr 2
  rw [← Lib.size_eq]; simp; omega

theorem und_string : Tryd.prog.underlying 9 = some .string := by kernel_rfl

set_option maxHeartbeats 1000000 in
theorem text_list (v : Value) (l : List UInt8) (b off cap : Nat) (zs : List ByteArray) (w : World) (h : Src w v l) (hb : b < w.heap.size)
    (hl : l.length + 65537 * zs.length ≤ 140737488355328)
    (hz : ∀ j, j < zs.length → (zs.getD j ByteArray.empty).size ≤ maxLen)
    (hc : ∀ j, j < zs.length → w.cell? ⟨b, off + j, none⟩ = some (.string (zs.getD j ByteArray.empty))) :
    Calls Tryd.prog 53 #[v, .slice (some ⟨b, off, none⟩) zs.length cap] w fun e w' => ∃ v', e = .returned v' ∧ Bs w' w.heap.size v' (l ++ textsE zs) ∧ Below w.heap.size w w' := by
  obtain ⟨i0, hi, hz0, hz1, hz2⟩ := info_parts info_u8
  have HE := Lib.hid (fun (m : Nat) (hm : m ≤ 65537 * zs.length) => extend_any v l m w h (by omega))
  obtain ⟨a0, c0, rfl, _⟩ := h
  have HZ := Lib.hid hz
  have HC := Lib.hid hc
  clear hz hc
  go_enter Tryd.func53, Tryd.ntmps53
  go_wp2_with fail
  go_loop [5, 13] (fun x i => ∃ k m : Nat, k ≤ zs.length ∧ i = .int .i64 k ∧ x = .int .i64 m ∧ m ≤ 65537 * k) (fun _ i => zs.length - (intOf i).toNat)
  case atStart => exact ⟨0, 0, Nat.zero_le _, rfl, rfl, Nat.zero_le _⟩
  case round =>
    obtain ⟨k, m, hk, rfl, rfl, hm⟩ := hrel
    by_cases hlt : k < zs.length
    · have hcell := HC.out k hlt
      have hzk := HZ.out k hlt
      generalize zs.getD k ByteArray.empty = z at *
      unfold maxLen at hzk
      go_wp2_with fail
      go_round
      case rel => exact ⟨k + 1, m + (2 + min z.size 65535), by omega, by go_num, by go_num, by omega⟩
      case measure => simp [intOf]; omega
    · go_wp2_with fail
      refine (HE.out m (by omega)).mono ?_
      rintro e w1 ⟨v1, rfl, ho1, hb1⟩
      clear hm
      go_wp2_with fail
      go_loopw [8, 29] (fun x i wr => ∃ k : Nat, k ≤ zs.length ∧ i = .int .i64 k ∧ Bs wr w.heap.size x (l ++ textsE (zs.take k)) ∧ Below w.heap.size w wr) (fun _ i _ => zs.length - (intOf i).toNat)
      case atStart => exact ⟨0, Nat.zero_le _, rfl, by simpa [textsE] using ho1, hb1⟩
      case round =>
        obtain ⟨j, hj, rfl, hown, hbw⟩ := hrel
        by_cases hlt2 : j < zs.length
        · have hcell : wr.cell? ⟨b, off + j, none⟩ = some (.string (zs.getD j ByteArray.empty)) := (hbw.cell (p := ⟨b, off + j, none⟩) (by assumption)).trans (HC.out j hlt2)
          have hzk := HZ.out j hlt2
          have hes : l ++ textsE (zs.take (j + 1)) = (l ++ textsE (zs.take j)) ++ textE (zs.getD j ByteArray.empty).data.toList := by rw [textsE_snoc zs j hlt2, List.append_assoc]
          have hln : (l ++ textsE (zs.take j)).length ≤ l.length + 65537 * j := by
            rw [List.length_append]
            have := textsE_length (zs.take j)
            rw [List.length_take] at this
            omega
          have HES := Lib.hid hes
          clear hes
          generalize l ++ textsE (zs.take j) = q at *
          generalize zs.getD j ByteArray.empty = z at *
          unfold maxLen at hzk
          obtain ⟨n, hn⟩ : ∃ n : Nat, n = min z.size 65535 := ⟨_, rfl⟩
          have hn1 : n ≤ z.size := by omega
          have hn2 : n ≤ 65535 := by omega
          have hmin : min (z.size : Int) 65535 = (n : Int) := by omega
          have HTP := Lib.hid (textE_parts z n hn)
          have hsz := hbw.size
          have hxs : (z.extract 0 n).size = n := by simp; omega
          have HXS := Lib.hid hxs
          clear hn hxs
          go_wp2_with fail
          refine (bigEndian_any w.heap.size _ q n 2 _ hown hsz (by omega) (by omega) (by omega)).mono ?_
          rintro e w2 ⟨v2, rfl, ho2, hb2⟩
          have hsz2 := hb2.size
          have hq2 : (q ++ be 2 n).length ≤ q.length + 2 := by rw [List.length_append, be_length]; exact Nat.le_refl _
          obtain ⟨q2, hq2e⟩ : ∃ q2, q2 = q ++ be 2 n := ⟨_, rfl⟩
          rw [← hq2e] at ho2 hq2
          have HQ2 := Lib.hid hq2e
          clear hq2e
          obtain ⟨x, hx⟩ : ∃ x, x = z.extract 0 n := ⟨_, rfl⟩
          rw [← hx] at HXS HTP ⊢
          have hxz : x.size ≤ 65535 := by rw [HXS.out]; omega
          have HX := Lib.hid hx
          clear hx
          go_wp2_with (at_builtin; refine Lib.wpList_append_own_string _ rfl _ _ 58 9 rfl w.heap.size 5 i0 und_bytes und_string hi hz0 hz1 hz2 _ _ _ rfl ho2 x rfl ?c3 ?c4 ?c5 ?_)
          case c3 => unfold maxLen; omega
          case c4 => omega
          case c5 => omega
          intro v3 w3 ho3 hg3 _
          have R : Bs w3 w.heap.size v3 (q ++ textE z.data.toList) := by
            rw [HTP.out, ← List.append_assoc, ← HQ2.out]
            unfold Bs
            rw [List.length_append, cellsOf_append, ← Lib.size_eq, ← cellsOf_str]
            exact ho3
          rw [← HES.out] at R
          have hbel : Below w.heap.size w w3 := by
            refine (hbw.trans hb2).grown hg3 (by omega) ?_
            intro y hy
            rcases ho2.2 with ⟨h2, _⟩ | ⟨g, cap, cur, hv, hg, _⟩
            · rw [h2] at hy; simp [Value.ownBlock] at hy
            · rw [hv] at hy; simp [Value.ownBlock] at hy; omega
          clear ho3 hg3 ho2 hown
          go_wp2_with fail
          go_roundw
          case rel => exact ⟨j + 1, by omega, by go_num, R, hbel⟩
          case measure => simp [intOf]; omega
        · have hkk : zs.take j = zs := List.take_of_length_le (by omega)
          rw [hkk] at hown
          have HO := Lib.hid hown
          clear hown hkk
          go_wp2_with fail
          go_ret
          exact ⟨_, rfl, HO.out, hbw⟩
/-- One string. -/
theorem text_one (v : Value) (l : List UInt8) (z : ByteArray) (w : World) (h : Src w v l) (hl : l.length + 65537 ≤ 140737488355328) (hz : z.size ≤ maxLen) :
    Calls Tryd.prog 53 #[v, .slice (some ⟨w.heap.size, 0, none⟩) 1 1] (w.alloc (.cells #[.string z] 9)) fun e w' => ∃ v', e = .returned v' ∧ Bs w' w.heap.size v' (l ++ textE z.data.toList) ∧ Below w.heap.size w w' := by
  have h0 := (Below.refl w.heap.size w).alloc (Nat.le_refl _) (.cells #[.string z] 9)
  refine (text_list v l w.heap.size 0 1 [z] (w.alloc (.cells #[.string z] 9)) (h.below h0) (by simp) (by simpa using hl) ?_ ?_).mono ?_
  · intro j hj
    match j, hj with
    | 0, _ => exact hz
  · intro j hj
    match j, hj with
    | 0, _ => simp [World.cell?_alloc_at]
  · rintro e w' ⟨v', he, ho, hb⟩
    refine ⟨v', he, ?_, h0.trans (hb.mono (by simp))⟩
    have := ho.mono (C := w.heap.size) (by simp)
    simpa [textsE] using this

end Go.Proofs.YtbdbmoinoehneaaDoor
