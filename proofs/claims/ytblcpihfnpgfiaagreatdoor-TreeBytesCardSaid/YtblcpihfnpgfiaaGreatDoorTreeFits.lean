/- fits: whether a node may be where it is. No conditions beyond those in each statement. -/
import Derived.Test.YtblcpihfnpgfiaaGreatDoorTreeRN
namespace Go.Proofs.YtblcpihfnpgfiaaGreatDoor
open Go.RowKit Go.Maps
set_option linter.unusedVariables false
set_option linter.unusedSimpArgs false
set_option maxRecDepth 100000

set_option maxHeartbeats 4000000 in
theorem fits_any (tb mb k c : Nat) (T : List UInt8 → Option Nd) (z : List UInt8) (n : Nd) (w : World) (h : TrW w tb mb k c T) (hz : z.length ≤ 1000) (hd : n.data.size ≤ 1000) :
    Calls Tryz.prog 49 #[.pointer (some ⟨tb, 0, none⟩), .string (bs z), ndV n] w fun e w' => e = .returned (.bool (fitsT T z n)) ∧ Below w.heap.size w w' := by
  have b1 := (Below.refl _ w).alloc (Nat.le_refl _) (.cells (ndC n) 40)
  have N1 := NdB.new w n
  have H1 := h.below b1
  obtain ⟨⟨c0, c1, c2, c3, c4, c5, c6⟩, f0, f1, f2, f3, f4, f5, f6⟩ := N1.cells
  by_cases hr : z = [47]
  · have hF : fitsT T z n = (n.owner == 0) := by unfold fitsT; rw [if_pos hr]
    rw [hF]
    have er : ((bs z).toList == [47]) = true := eq_true (by rw [bs_list, hr])
    clear hF hr h H1
    unfold ndV
    go_enter Tryz.func49, Tryz.ntmps49
    go_wp2_with fail
    go_ret
    exact ⟨rfl, b1⟩
  · have hF : fitsT T z n = ((placeN T z n.data).2.2 == 0) := by unfold fitsT; rw [if_neg hr]
    rw [hF]
    have er : ((bs z).toList == [47]) = false := eq_false (by rw [bs_list]; exact hr)
    have HP := Lib.hid (place_any tb mb k c T z n.data _ H1 (by omega) (by unfold maxLen; omega))
    obtain ⟨up, hup⟩ : ∃ up, up = (placeN T z n.data).1 := ⟨_, rfl⟩
    obtain ⟨par, hpar⟩ : ∃ par, par = (placeN T z n.data).2.1 := ⟨_, rfl⟩
    obtain ⟨pe, hpe⟩ : ∃ pe, pe = (placeN T z n.data).2.2 := ⟨_, rfl⟩
    rw [← hup, ← hpar, ← hpe] at HP
    rw [← hpe]
    unfold ndV at HP
    clear hF hr h H1 hup hpar hpe
    unfold ndV
    go_enter Tryz.func49, Tryz.ntmps49
    go_wp2_with fail
    refine HP.out.mono ?_
    rintro e w2 ⟨rfl, b2⟩
    replace b2 := b1.trans (b2.mono b1.size)
    go_wp2_with fail
    go_ret
    exact ⟨rfl, b2.alloc b2.size _⟩
end Go.Proofs.YtblcpihfnpgfiaaGreatDoor
