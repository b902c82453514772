/- Package pith's Flag, both ways; what was encoded is read. No conditions beyond those in each statement. -/
import Derived.Test.YtbdbmoinoehneaaDoorPithGood
namespace Go.Proofs.YtbdbmoinoehneaaDoor
open Go.RowKit
set_option linter.unusedVariables false
set_option maxRecDepth 100000
set_option maxHeartbeats 400000 in
theorem flag_rs (b : Nat) (st : RS) (w : World) (h : Rs w b st) :
    Calls Tryd.prog 76 #[.pointer (some ⟨b, 0, none⟩)] w fun e w' => e = .returned (.bool (flagF st).1) ∧ Rs w' b (flagF st).2 ∧ w.grownBy w' (some b) := by
  have H := Lib.hid (number_rs b 1 1 st w h (by omega))
  go_enter Tryd.func76, Tryd.ntmps76
  go_wp2_with fail
  refine H.out.mono ?_
  rintro e w' ⟨rfl, hr, hg⟩
  go_wp2
  go_ret
  exact ⟨rfl, hr, hg⟩
def flagE (x : Bool) : List UInt8 := [if x = true then 1 else 0]
def flagsE (zs : List Bool) : List UInt8 := zs.flatMap flagE
theorem flagsE_length (zs : List Bool) : (flagsE zs).length = zs.length := by
  induction zs with
  | nil => rfl
  | cons z zs ih => rw [flagsE, List.flatMap_cons, List.length_append, List.length_cons]; unfold flagsE at ih; rw [ih]; simp [flagE]; omega
theorem flagsE_snoc (zs : List Bool) (k : Nat) (h : k < zs.length) : flagsE (zs.take (k + 1)) = flagsE (zs.take k) ++ flagE (zs.getD k false) := by
  rw [take_snoc_getD zs false k h, flagsE, List.flatMap_append]; simp [flagsE]

theorem new_byte (w : World) (c : Int) (j : Nat) (u : Value) (hj : [Value.int .u8 c][j]? = some u) :
    (w.alloc (.cells #[.int .u8 c] 5)).cell? ((⟨w.heap.size, 0, none⟩ : Addr).add j) = some u := by
  match j, hj with
  | 0, hj => simp at hj; subst hj; simp [Addr.add]
theorem new_byte_one (c : Int) : ∀ u ∈ [Value.int .u8 c], u.oneCell' = true := by
  intro u hu; simp at hu; subst hu; rfl

set_option maxHeartbeats 1000000 in
theorem flag_list (v : Value) (l : List UInt8) (b off cap : Nat) (zs : List Bool) (w : World) (h : Src w v l) (hb : b < w.heap.size)
    (hl : l.length + zs.length ≤ 140737488355328)
    (hc : ∀ j, j < zs.length → w.cell? ⟨b, off + j, none⟩ = some (.bool (zs.getD j false))) :
    Calls Tryd.prog 54 #[v, .slice (some ⟨b, off, none⟩) zs.length cap] w fun e w' => ∃ v', e = .returned v' ∧ Bs w' w.heap.size v' (l ++ flagsE zs) ∧ Below w.heap.size w w' := by
  obtain ⟨i0, hi, hz0, hz1, hz2⟩ := info_parts info_u8
  have HE := Lib.hid (extend_any v l zs.length w h (by omega))
  obtain ⟨a0, c0, rfl, _⟩ := h
  have HC := Lib.hid hc
  clear hc
  go_enter Tryd.func54, Tryd.ntmps54
  go_wp2_with fail
  refine HE.out.mono ?_
  rintro e w1 ⟨v1, rfl, ho1, hb1⟩
  go_wp2_with fail
  go_loopw [5, 14] (fun x i wr => ∃ k : Nat, k ≤ zs.length ∧ i = .int .i64 k ∧ Bs wr w.heap.size x (l ++ flagsE (zs.take k)) ∧ Below w.heap.size w wr) (fun _ i _ => zs.length - (intOf i).toNat)
  case atStart => exact ⟨0, Nat.zero_le _, rfl, by simpa [flagsE] using ho1, hb1⟩
  case round =>
    obtain ⟨k, hk, rfl, hown, hbw⟩ := hrel
    by_cases hlt : k < zs.length
    · have hcell : wr.cell? ⟨b, off + k, none⟩ = some (.bool (zs.getD k false)) := (hbw.cell (p := ⟨b, off + k, none⟩) (by assumption)).trans (HC.out k hlt)
      have hes : l ++ flagsE (zs.take (k + 1)) = (l ++ flagsE (zs.take k)) ++ flagE (zs.getD k false) := by rw [flagsE_snoc zs k hlt, List.append_assoc]
      have hln : (l ++ flagsE (zs.take k)).length ≤ l.length + k := by
        rw [List.length_append, flagsE_length, List.length_take]; omega
      have HES := Lib.hid hes
      clear hes
      generalize l ++ flagsE (zs.take k) = m at *
      generalize zs.getD k false = z at *
      have hsz := hbw.size
      have hown2 : ∀ (v' : Value) (w1 : World) (c : Int), w1.ownsRow w.heap.size 5 1 v' (m.length + 1) (cellsOf m ++ [.int .u8 c]) → c = (((if z = true then 1 else 0 : UInt8)).toNat : Int) → Bs w1 w.heap.size v' (m ++ flagE z) := by
        intro v' w1 c hh hc
        unfold Bs
        rw [cellsOf_append, List.length_append, show (flagE z).length = 1 from rfl, show cellsOf (flagE z) = [.int .u8 c] by rw [hc]; rfl]
        exact hh
      have HO2 := Lib.hid hown2
      have hblk : ∀ y, u5.ownBlock = some y → w.heap.size ≤ y := by
        intro y hy
        rcases hown.2 with ⟨h2, _⟩ | ⟨g, cap, cur, hv, hg, _⟩
        · rw [h2] at hy; simp [Value.ownBlock] at hy
        · rw [hv] at hy; simp [Value.ownBlock] at hy; omega
      have HBL := Lib.hid hblk
      clear hown2 hblk
      have HN := Lib.hid (fun (c : Int) => new_byte wr c)
      have HI := Lib.hid (fun (c : Int) => new_byte_one c)
      have HBS := Lib.hid (fun (c : Int) => show w.heap.size ≤ (wr.alloc (.cells #[.int .u8 c] 5)).heap.size by simp; omega)
      have H63 := Lib.hid (show m.length + 1 ≤ maxLen by unfold maxLen; omega)
      have H47 := Lib.hid (show (m.length + 1) * 1 ≤ 140737488355328 by omega)
      cases z with
      | true =>
        go_wp2_with (at_builtin; refine wpList_append_own _ rfl _ _ 58 rfl w.heap.size 5 i0 (.int .u8 0) 1 1 und_bytes hi hz0 hz1 hz2 rfl (by decide) _ _ _ rfl (hown.alloc _) ⟨wr.heap.size, 0, none⟩ 1 1 [.int .u8 1] rfl rfl (HN.out 1) (HI.out 1) H63.out H47.out (HBS.out 1) ?_)
        intro v' w2 ho2 hg2 _
        have R := HO2.out _ _ _ ho2 rfl
        rw [← HES.out] at R
        have hbel : Below w.heap.size w w2 := (hbw.alloc (by omega) _).grown hg2 (by simp; omega) HBL.out
        clear ho2 hg2 hown
        go_wp2_with fail
        go_roundw
        case rel => exact ⟨k + 1, by omega, by go_num, R, hbel⟩
        case measure => simp [intOf]; omega
      | false =>
        go_wp2_with (at_builtin; refine wpList_append_own _ rfl _ _ 58 rfl w.heap.size 5 i0 (.int .u8 0) 1 1 und_bytes hi hz0 hz1 hz2 rfl (by decide) _ _ _ rfl (hown.alloc _) ⟨wr.heap.size, 0, none⟩ 1 1 [.int .u8 0] rfl rfl (HN.out 0) (HI.out 0) H63.out H47.out (HBS.out 0) ?_)
        intro v' w2 ho2 hg2 _
        have R := HO2.out _ _ _ ho2 rfl
        rw [← HES.out] at R
        have hbel : Below w.heap.size w w2 := (hbw.alloc (by omega) _).grown hg2 (by simp; omega) HBL.out
        clear ho2 hg2 hown
        go_wp2_with fail
        go_roundw
        case rel => exact ⟨k + 1, by omega, by go_num, R, hbel⟩
        case measure => simp [intOf]; omega
    · have hkk : zs.take k = zs := List.take_of_length_le (by omega)
      rw [hkk] at hown
      have HO := Lib.hid hown
      clear hown hkk
      go_wp2_with fail
      go_ret
      exact ⟨_, rfl, HO.out, hbw⟩

/-- One boolean. -/
theorem flag_one (v : Value) (l : List UInt8) (z : Bool) (w : World) (h : Src w v l) (hl : l.length + 1 ≤ 140737488355328) :
    Calls Tryd.prog 54 #[v, .slice (some ⟨w.heap.size, 0, none⟩) 1 1] (w.alloc (.cells #[.bool z] 4)) fun e w' => ∃ v', e = .returned v' ∧ Bs w' w.heap.size v' (l ++ flagE z) ∧ Below w.heap.size w w' := by
  have h0 := (Below.refl w.heap.size w).alloc (Nat.le_refl _) (.cells #[.bool z] 4)
  refine (flag_list v l w.heap.size 0 1 [z] (w.alloc (.cells #[.bool z] 4)) (h.below h0) (by simp) (by simpa using hl) ?_).mono ?_
  · intro j hj
    match j, hj with
    | 0, _ => simp [World.cell?_alloc_at]
  · rintro e w' ⟨v', he, ho, hb⟩
    refine ⟨v', he, ?_, h0.trans (hb.mono (by simp))⟩
    have := ho.mono (C := w.heap.size) (by simp)
    simpa [flagsE] using this
theorem flagF_good (x : Bool) (r : List UInt8) : flagF (some (flagE x ++ r)) = (x, some r) := by
  cases x
  · show ((numF 1 1 (some (0 :: r))).1 == 1, (numF 1 1 (some (0 :: r))).2) = _
    have : numF 1 1 (some ((0 : UInt8) :: r)) = (0, some r) := by
      simp [numF, val]
    rw [this]; rfl
  · show ((numF 1 1 (some (1 :: r))).1 == 1, (numF 1 1 (some (1 :: r))).2) = _
    have : numF 1 1 (some ((1 : UInt8) :: r)) = (1, some r) := by
      simp [numF, val]
    rw [this]; rfl
theorem flagF_some {st : RS} {l' : List UInt8} (h : (flagF st).2 = some l') : ∃ l, st = some l ∧ l = flagE (flagF st).1 ++ l' := by
  cases st with
  | none => cases h
  | some l =>
    refine ⟨l, rfl, ?_⟩
    unfold flagF at h ⊢
    by_cases hc : l.length < 1 ∨ (1 : Int) < (val (l.take 1) : Int)
    · simp only [numF, hc, if_true] at h; cases h
    · simp only [numF, hc, if_false] at h ⊢
      injection h with h
      cases l with
      | nil => simp at hc
      | cons c l =>
        simp only [List.take_succ_cons, List.take_zero, List.drop_succ_cons, List.drop_zero] at h hc ⊢
        have hv : val [c] = c.toNat := by simp [val]
        rw [hv] at hc ⊢
        rw [← h]
        have hcc : c.toNat = 0 ∨ c.toNat = 1 := by omega
        rcases hcc with e | e
        · have : c = 0 := UInt8.toNat_inj.1 (by simpa using e)
          subst this; rfl
        · have : c = 1 := UInt8.toNat_inj.1 (by simpa using e)
          subst this; rfl
end Go.Proofs.YtbdbmoinoehneaaDoor
