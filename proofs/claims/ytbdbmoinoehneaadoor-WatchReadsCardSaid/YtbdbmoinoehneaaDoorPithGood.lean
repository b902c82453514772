/- What was encoded is read: numbers, texts. No conditions beyond those in each statement. -/
import Derived.Test.YtbdbmoinoehneaaDoorPithMath
import Derived.Test.YtbdbmoinoehneaaDoorPithTxt
namespace Go.Proofs.YtbdbmoinoehneaaDoor
open Go.RowKit
set_option linter.unusedVariables false

theorem val_numE (z : Int) (h0 : 0 ≤ z) (h1 : z ≤ 281474976710655) : (val (numE z) : Int) = z := by
  unfold numE
  rw [val_be_lt _ _ (by have : (256 : Nat) ^ 6 = 281474976710656 := by decide
                        omega)]
  omega
theorem numF_good (z most : Int) (r : List UInt8) (h0 : 0 ≤ z) (hz : z ≤ most) (hm : most ≤ 281474976710655) : numF 6 most (some (numE z ++ r)) = (z, some r) := by
  have hl : (numE z).length = 6 := numE_length z
  have ht : (numE z ++ r).take 6 = numE z := List.take_left' hl
  have hd : (numE z ++ r).drop 6 = r := List.drop_left' hl
  have hv := val_numE z h0 (by omega)
  show (if _ then _ else _) = _
  rw [if_neg (by rw [ht, hv, List.length_append, hl]; omega), ht, hd, hv]
theorem textF_good (t : List UInt8) (most : Int) (r : List UInt8) (ht : (t.length : Int) ≤ most) (hm : most ≤ 65535) : textF most (some (textE t ++ r)) = (t, some r) := by
  have h0 : t.take 65535 = t := List.take_of_length_le (by omega)
  have hb : (be 2 t.length).length = 2 := be_length _ _
  have hv : val (be 2 t.length) = t.length := val_be_lt _ _ (by have : (256 : Nat) ^ 2 = 65536 := by decide
                                                                omega)
  unfold textF textE
  rw [h0, List.append_assoc]
  have e : numF 2 most (some (be 2 t.length ++ (t ++ r))) = ((t.length : Int), some (t ++ r)) := by
    have ht2 : (be 2 t.length ++ (t ++ r)).take 2 = be 2 t.length := List.take_left' hb
    have hd2 : (be 2 t.length ++ (t ++ r)).drop 2 = t ++ r := List.drop_left' hb
    show (if _ then _ else _) = _
    rw [if_neg (by rw [ht2, hv, List.length_append, hb]; omega), ht2, hd2, hv]
  rw [e]
  show takeF (t.length : Int).toNat (some (t ++ r)) = _
  rw [Int.toNat_natCast]
  show (if _ then _ else _) = _
  rw [if_neg (by rw [List.length_append]; omega), List.take_left' rfl, List.drop_left' rfl]
end Go.Proofs.YtbdbmoinoehneaaDoor
