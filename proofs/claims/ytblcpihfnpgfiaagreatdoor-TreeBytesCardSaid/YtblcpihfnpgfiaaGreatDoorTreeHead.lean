/- The head of the laws of package tree. No conditions beyond those in each statement. -/
import Derived.Test.YtblcpihfnpgfiaaGreatDoorTreeCreate
namespace Go.Proofs.YtblcpihfnpgfiaaGreatDoor
open Go.RowKit Go.Maps
set_option linter.unusedVariables false
set_option linter.unusedSimpArgs false
set_option maxRecDepth 100000

def hT1 : List UInt8 → Option Nd := updN (updN rootT [47] (some ⟨⟨#[]⟩, 0, 1, 0, 0, 0, 0⟩)) [47, 97] (some ⟨⟨#[]⟩, 0, 0, 0, 1, 1, 0⟩)
def hP0 : List UInt8 := [47, 97, 47, 110, 48, 48, 48, 48, 48, 48, 48, 48, 48, 48]
def hP1 : List UInt8 := [47, 97, 47, 110, 48, 48, 48, 48, 48, 48, 48, 48, 48, 49]
def hT2 : List UInt8 → Option Nd := updN (updN hT1 [47, 97] (some ⟨⟨#[]⟩, 0, 1, 0, 1, 1, 1⟩)) hP0 (some ⟨⟨#[]⟩, 0, 0, 0, 2, 2, 0⟩)
def hT3 : List UInt8 → Option Nd := updN (updN hT2 [47, 97] (some ⟨⟨#[]⟩, 0, 2, 0, 1, 1, 2⟩)) hP1 (some ⟨⟨#[]⟩, 0, 0, 0, 3, 3, 0⟩)
theorem hc1 : createN rootT 1 [47, 97] ⟨#[]⟩ 0 1 false = ⟨[47, 97], 0, hT1, 2⟩ := by kernel_rfl
theorem hc2 : createN hT1 2 [47, 97, 47, 110] ⟨#[]⟩ 0 2 true = ⟨hP0, 0, hT2, 3⟩ := by kernel_rfl
theorem hc3 : createN hT2 3 [47, 97, 47, 110] ⟨#[]⟩ 0 3 true = ⟨hP1, 0, hT3, 4⟩ := by kernel_rfl
theorem SmallT.upd {T : List UInt8 → Option Nd} (h : SmallT T) (z : List UInt8) (n : Nd) (hn : (0 ≤ n.serial ∧ n.serial ≤ 98) ∧ (0 ≤ n.below ∧ n.below ≤ 1000000) ∧ (0 ≤ n.ver ∧ n.ver ≤ 1000000)) : SmallT (updN T z (some n)) := by
  intro x m hx
  by_cases e : x = z
  · subst e; rw [updN_same] at hx; cases hx; exact hn
  · rw [updN_other e] at hx; exact h x m hx
theorem small_root : SmallT rootT := SmallT.upd (fun x n h => by cases h) _ _ (by decide)
theorem small_h1 : SmallT hT1 := SmallT.upd (SmallT.upd small_root _ _ (by decide)) _ _ (by decide)
theorem small_h2 : SmallT hT2 := SmallT.upd (SmallT.upd small_h1 _ _ (by decide)) _ _ (by decide)
theorem left_below {w w' : World} {tb mb k c m : Nat} {T : List UInt8 → Option Nd} (h : Left w tb mb k c T w') (h1 : m ≤ mb) (hs : m ≤ w.heap.size) : Below m w w' :=
  (Below.refl m w).grown h.2 hs (fun j hj => by obtain rfl := Option.some.inj hj; exact h1)
set_option maxHeartbeats 4000000 in
theorem head9_any (w : World) : Calls Tryz.prog 6 #[] w fun e w' => e = .returned (.bool true) ∧ Below w.heap.size w w' := by
  have HN := Lib.hid (new_any w)
  have e1 := eq_true (bs_list hP0)
  have e2 := eq_true (bs_list hP1)
  unfold hP0 at e1
  unfold hP1 at e2
  go_enter Tryz.func6, Tryz.ntmps6
  go_wp2_with fail
  refine HN.out.mono ?_
  rintro e w1 ⟨tb, mb, rfl, H1, b1, hm1, hm2⟩
  have C1 := create_any tb mb 1 1 rootT [47, 97] ⟨#[]⟩ 0 1 false w1 H1 (by decide) (by decide) small_root (by decide)
  rw [hc1] at C1
  have HC1 := Lib.hid C1
  clear C1
  go_wp2_with fail
  refine HC1.out.mono ?_
  rintro e w2 ⟨rfl, L2⟩
  have b2 := b1.trans (left_below L2 hm2 b1.size)
  have C2 := create_any tb mb 3 2 hT1 [47, 97, 47, 110] ⟨#[]⟩ 0 2 true w2 L2.1 (by decide) (by decide) small_h1 (by decide)
  rw [hc2] at C2
  have HC2 := Lib.hid C2
  clear C2 L2
  go_wp2_with fail
  refine HC2.out.mono ?_
  rintro e w3 ⟨rfl, L3⟩
  have b3 := b2.trans (left_below L3 hm2 b2.size)
  have C3 := create_any tb mb 5 3 hT2 [47, 97, 47, 110] ⟨#[]⟩ 0 3 true w3 L3.1 (by decide) (by decide) small_h2 (by decide)
  rw [hc3] at C3
  have HC3 := Lib.hid C3
  clear C3 L3
  unfold hP0
  unfold hP1 at HC3
  go_wp2_with fail
  refine HC3.out.mono ?_
  rintro e w4 ⟨rfl, L4⟩
  have b4 := b3.trans (left_below L4 hm2 b3.size)
  go_wp2_with fail
  go_ret
  exact ⟨rfl, b4⟩
end Go.Proofs.YtblcpihfnpgfiaaGreatDoor
