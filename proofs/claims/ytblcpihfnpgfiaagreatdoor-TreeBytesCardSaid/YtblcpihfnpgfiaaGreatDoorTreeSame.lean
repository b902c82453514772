/- Same of two trees with the same nodes. No conditions beyond those in each statement. -/
import Derived.Test.YtblcpihfnpgfiaaGreatDoorTreeOwned
import Derived.Test.YtblcpihfnpgfiaaGreatDoorTreeArm
namespace Go.Proofs.YtblcpihfnpgfiaaGreatDoor
open Go.RowKit Go.Maps Go.Sort
set_option linter.unusedVariables false
set_option linter.unusedSimpArgs false
set_option maxRecDepth 100000

theorem eq_nd (a : Nd) (W : World) : (binOp .neq 40 (ndV a) (ndV a)).run Tryz.prog W = .ok (.bool false) W := by
  unfold ndV
  simp [go_sem]
set_option maxHeartbeats 4000000 in
theorem equal_any (mb1 mb2 k1 k2 c : Nat) (T : List UInt8 → Option Nd) (w : World) (h1 : MapN w mb1 k1 c T) (h2 : MapN w mb2 k2 c T) (hc1 : c ≤ 1000) :
    Calls Tryz.prog 43 #[.map (some mb1), .map (some mb2)] w fun e w' => e = .returned (.bool true) ∧ Below w.heap.size w w' := by
  have hl1 := h1.len
  have hl2 := h2.len
  have hmb := h1.lt
  have H2 := Lib.hid h2
  obtain ⟨D, hoD, hcD, hD⟩ := h1
  clear h2
  go_enter Tryz.func43, Tryz.ntmps43
  go_wp2_with (first
    | (at_range; refine wpList_range_own _ rfl _ 68 rfl 9 40 lawS und_map9 ndR mb1 k1 D rfl hoD ?_; intro w0 hrg0 hg0 hs0; go_frame)
    | go_in)
  go_loopw [] (fun wr => ∃ (left : Lit → Bool) (cnt : Nat), wr.ranges Tryz.prog 9 ndR mb1 w.heap.size k1 D left cnt ∧ Below w.heap.size w wr) (fun wr => wr.rangeLeft mb1 w.heap.size)
  case atStart =>
    exact ⟨_, _, hrg0, ⟨hg0.os, hg0.tape, hg0.output, hg0.size, fun j hj => hg0.block j hj (by simp)⟩⟩
  case round =>
    obtain ⟨left, cnt, hrg, bk⟩ := hrel
    clear hl1 hl2
    go_wp2_with (first
      | (at_next; refine wpList_next_ranges _ rfl _ rfl 9 lawS ndR Value.string ndV (fun key kl hkey => by obtain ⟨x, rfl, _⟩ := keyS_inv hkey; exact ⟨_, rfl⟩) (fun v y hv => ndR_any hv) mb1 w.heap.size k1 D left cnt rfl hrg ?_ ?_)
      | go_in)
    · intro _ hl0
      go_wp2_with fail
      go_ret
      exact ⟨rfl, bk⟩
    · intro x cN kl y yp w4 cnt1 hkey hlx hv hat hrg1 hlt hg1 hs1 hen
      obtain ⟨l, hl, rfl, hll⟩ := keyS_inv hkey
      obtain rfl : x = bs l := by injection hl
      have hhas : (T l).isSome = true := by rw [← (hD l).1]; exact Maps.has_true_of_atKey hat
      obtain ⟨n, hTn⟩ := Option.isSome_iff_exists.1 hhas
      have hcn : cN = n := by
        rw [ndR_mk] at hv
        injection hv with hv
        injection hv with hv _
        exact ndD_inj (hv.trans ((hat (ndD Nd.zero)).symm.trans ((hD l).2 n hTn)))
      subst hcn
      have b4 : Below w.heap.size w w4 := bk.grown hg1 bk.size (fun j hj => by cases hj; exact Nat.le_refl _)
      obtain ⟨w5, hst, N5, b5, hz5⟩ := newN w4 cN
      have b6 := (Below.refl _ w5).alloc (Nat.le_refl _) (.cells (ndC cN) 40)
      have N6 := NdB.new w5 cN
      obtain ⟨w6, hw6⟩ : ∃ w6, w6 = w5.alloc (.cells (ndC cN) 40) := ⟨_, rfl⟩
      rw [← hw6] at b6 N6
      unfold ndC at hw6
      have hlk := ((H2.out.below b4).below b5).look_ok l hll
      rw [hTn] at hlk
      simp only [Option.getD_some, Option.isSome_some] at hlk
      have N56 := N5.below b6
      have hld5 := run_loadN N56
      have hld6 := run_loadN N6
      have heq := eq_nd cN w6
      have b46 : Below w4.heap.size w4 w6 := b5.trans (b6.mono b5.size)
      have hrg6 := hrg1.kept (⟨b46.os, b46.tape, b46.output, b46.size, fun i hi _ => b46.block i hi⟩ : w4.grownBy w6 none) (by simp) (by simp)
      have LE := Lib.hid hrg.left_eq
      have HRG := Lib.hid hrg6
      have HB6 := Lib.hid (b4.trans (b46.mono b4.size))
      have HLT := Lib.hid hlt
      unfold ndV at hst hlk hld5 hld6 heq hen
      have HS5 := Lib.hid hst
      have HL5 := Lib.hid hld5
      have HL6 := Lib.hid hld6
      clear hst hld5 hld6 hrg6 hrg1 hrg hg1 hs1 hlt hat hv hkey hhas hl hTn bk hoD b4 b5 b6 b46 N5 N6 N56 hz5 hlx
      go_upto_region 7 with (refine wpList_store_run HS5.out rfl rfl rfl rfl ?_)
      rw [← hw6]
      clear hw6
      go_wp2_with (first | (refine wpList_load_g HL5.out rfl rfl (by rfl) ?_) | (refine wpList_load_g HL6.out rfl rfl (by rfl) ?_))
      go_roundw
      case rel => exact ⟨_, cnt1, HRG.out, HB6.out⟩
      case measure => rw [HRG.out.left_eq, LE.out]; exact HLT.out
theorem nil_all (w : World) : Calls Tryz.prog 39 #[.pointer none] w fun e w' => e = .returned (.map none) ∧ w' = w := by
  go_enter Tryz.func39, Tryz.ntmps39
  go_wp2_with fail
  go_ret
  exact ⟨rfl, rfl⟩
set_option maxHeartbeats 4000000 in
theorem same_any (tb1 mb1 k1 tb2 mb2 k2 c : Nat) (T : List UInt8 → Option Nd) (w : World) (h1 : TrW w tb1 mb1 k1 c T) (h2 : TrW w tb2 mb2 k2 c T) (hc1 : c ≤ 1000) :
    Calls Tryz.prog 19 #[.pointer (some ⟨tb1, 0, none⟩), .pointer (some ⟨tb2, 0, none⟩)] w fun e w' => e = .returned (.bool true) ∧ Below w.heap.size w w' := by
  have HA1 := Lib.hid (all_any tb1 mb1 w h1.cell)
  have HA2 := Lib.hid (all_any tb2 mb2 w h2.cell)
  have HE := Lib.hid (equal_any mb1 mb2 k1 k2 c T w h1.map h2.map hc1)
  clear h1 h2
  go_enter Tryz.func19, Tryz.ntmps19
  go_wp2_with fail
  refine HA1.out.mono ?_
  rintro e w1 ⟨rfl, hw⟩
  obtain rfl := hw.symm
  go_wp2_with fail
  refine HA2.out.mono ?_
  rintro e w1 ⟨rfl, hw⟩
  obtain rfl := hw.symm
  go_wp2_with fail
  refine HE.out.mono ?_
  rintro e w1 ⟨rfl, b1⟩
  go_wp2_with fail
  go_ret
  exact ⟨rfl, b1⟩
end Go.Proofs.YtblcpihfnpgfiaaGreatDoor
