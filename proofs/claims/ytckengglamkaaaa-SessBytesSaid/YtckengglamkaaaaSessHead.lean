/- The head of the laws of package sess. No conditions beyond those in each statement. -/
import Derived.Test.YtckengglamkaaaaSessArgs
namespace Go.Proofs.Ytckengglamkaaaa
open Go.RowKit Go.Maps
set_option linter.unusedVariables false
set_option maxRecDepth 100000

def noS : Int → Option Ss := fun _ => none
def h1S : Int → Option Ss := updS noS 5 (some Ss.zero)
def h2S : Int → Option Ss := updS h1S 5 (some ⟨1, ⟨#[120]⟩⟩)
theorem h_open : openE noS 0 5 = 0 ∧ openT noS 0 5 = h1S ∧ openC noS 0 5 = 1 := ⟨by decide, rfl, rfl⟩
theorem h_keep : keepE h1S 5 1 ⟨#[120]⟩ = 0 ∧ keepT h1S 5 1 ⟨#[120]⟩ = h2S := ⟨by kernel_rfl, by kernel_rfl⟩
theorem h_seen1 : seenS h2S 5 1 = (⟨#[120]⟩, true, 0) := by kernel_rfl
theorem h_seen2 : seenS h2S 5 2 = (⟨#[]⟩, false, 0) := by kernel_rfl
set_option maxHeartbeats 4000000 in
theorem head10_any (w : World) : Calls Try.prog 9 #[] w fun e w' => e = .returned (.bool true) ∧ Below w.heap.size w w' := by
  have HN := Lib.hid (new_any w)
  go_enter Try.func9, Try.ntmps9
  go_wp2_with fail
  refine HN.out.mono ?_
  rintro e w1 ⟨tb, mb, rfl, H1, b1, hm1, hm2⟩
  have C1 := open_any tb mb 0 0 noS 5 w1 H1 (by unfold InR; omega) (by decide)
  rw [h_open.1, h_open.2.1, h_open.2.2] at C1
  have HC1 := Lib.hid C1
  clear C1 HN
  go_wp2_with fail
  refine HC1.out.mono ?_
  rintro e w2 ⟨rfl, L2⟩
  have b2 := b1.trans (left10_below L2 hm2 b1.size)
  have C2 := keep_any tb mb 1 1 h1S 5 1 ⟨#[120]⟩ w2 L2.1 (by unfold InR; omega) (by decide) (by decide)
  rw [h_keep.1, h_keep.2] at C2
  have HC2 := Lib.hid C2
  clear C2 L2 HC1
  go_wp2_with fail
  refine HC2.out.mono ?_
  rintro e w3 ⟨rfl, L3⟩
  have b3 := b2.trans (left10_below L3 hm2 b2.size)
  have C3 := seen_any tb mb 2 1 h2S 5 1 w3 L3.1 (by unfold InR; omega)
  rw [h_seen1] at C3
  have HC3 := Lib.hid C3
  have L3' := Lib.hid L3.1
  clear C3 L3 HC2
  go_wp2_with fail
  refine HC3.out.mono ?_
  rintro e w4 ⟨rfl, b4'⟩
  have b4 := b3.trans (b4'.mono b3.size)
  have C4 := seen_any tb mb 2 1 h2S 5 2 w4 (L3'.out.below b4') (by unfold InR; omega)
  rw [h_seen2] at C4
  have HC4 := Lib.hid C4
  clear C4 HC3 b4'
  go_wp2_with fail
  refine HC4.out.mono ?_
  rintro e w5 ⟨rfl, b5'⟩
  have b5 := b4.trans (b5'.mono b4.size)
  go_wp2_with fail
  go_ret
  exact ⟨rfl, b5⟩
end Go.Proofs.Ytckengglamkaaaa
