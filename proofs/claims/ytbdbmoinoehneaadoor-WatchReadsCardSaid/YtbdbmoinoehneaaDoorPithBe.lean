/- Package pith's bigEndian, Num, Text and Flag. -/
import Derived.Test.YtbdbmoinoehneaaDoorPithEn
namespace Go.Proofs.YtbdbmoinoehneaaDoor
open Go.RowKit
set_option linter.unusedVariables false
set_option maxRecDepth 100000

/-- The lowest bytes of n, so many, the highest first. -/
def be (size n : Nat) : List UInt8 := (List.range size).map fun i => UInt8.ofNat (n / 256 ^ (size - 1 - i))
theorem be_length (size n : Nat) : (be size n).length = size := by simp [be]
theorem be_take (size n k : Nat) (h : k < size) : (be size n).take (k + 1) = (be size n).take k ++ [UInt8.ofNat (n / 256 ^ (size - 1 - k))] := by
  rw [List.take_succ_eq_append_getElem (by rw [be_length]; exact h)]
  simp [be]

theorem be_byte (n m : Nat) : (n : Int) / 2 ^ (8 * m) % 256 = ((UInt8.ofNat (n / 256 ^ m)).toNat : Int) := by
  have h : (2 : Int) ^ (8 * m) = ((256 ^ m : Nat) : Int) := by
    rw [Int.pow_mul, Int.natCast_pow]; rfl
  rw [h, UInt8.toNat_ofNat']
  generalize 256 ^ m = q
  simp
theorem be_step {w1 : World} {B : Nat} {v' : Value} {l m : List UInt8} {n size k : Nat} (hk : k < size) (hm : m = l ++ (be size n).take k)
    (hown : w1.ownsRow B 5 1 v' (m.length + 1) (cellsOf m ++ [.int .u8 ((n : Int) / 2 ^ (8 * (size - 1 - k)) % 256)])) :
    Bs w1 B v' (l ++ (be size n).take (k + 1)) := by
  unfold Bs
  rw [be_take size n k hk, ← List.append_assoc, ← hm]
  rw [cellsOf_append, List.length_append, List.length_singleton]
  rw [be_byte] at hown
  exact hown

set_option maxHeartbeats 1000000 in
theorem bigEndian_any (B : Nat) (v : Value) (l : List UInt8) (n size : Nat) (w : World) (h : Bs w B v l) (hB : B ≤ w.heap.size) (hl : l.length + size ≤ 140737488355328) (hn : n < 2 ^ 62) (hs : size ≤ 8) :
    Calls Tryd.prog 79 #[v, .int .i64 n, .int .i64 size] w fun e w' => ∃ v', e = .returned v' ∧ Bs w' B v' (l ++ be size n) ∧ Below B w w' := by
  obtain ⟨i0, hi, hz0, hz1, hz2⟩ := info_parts info_u8
  go_enter Tryd.func79, Tryd.ntmps79
  go_wp2_with fail
  go_loopw [0, 9] (fun x i wr => ∃ k : Nat, k ≤ size ∧ i = .int .i64 k ∧ Bs wr B x (l ++ (be size n).take k) ∧ Below B w wr) (fun _ i _ => size - (intOf i).toNat)
  case atStart => exact ⟨0, Nat.zero_le _, rfl, by simpa using h, Below.refl _ _⟩
  case round =>
    obtain ⟨k, hk, rfl, hown, hb⟩ := hrel
    by_cases hlt : k < size
    · have hsz := hb.size
      obtain ⟨m, hm⟩ : ∃ m, m = l ++ (be size n).take k := ⟨_, rfl⟩
      have hlen : m.length ≤ l.length + k := by
        rw [hm, List.length_append, List.length_take]; omega
      rw [← hm] at hown
      have HM := Lib.hid hm
      clear hm
      go_wp2_with (at_builtin; refine wpList_append_own _ rfl _ _ 58 rfl B 5 i0 (.int .u8 0) 1 1 und_bytes hi hz0 hz1 hz2 rfl (by decide) _ _ _ rfl (hown.alloc _) ⟨wr.heap.size, 0, none⟩ 1 1 [.int .u8 ((n : Int) / 2 ^ (8 * (size - 1 - k)) % 256)] rfl rfl ?c1 ?c2 ?c3 ?c4 ?c5 ?_)
      case c1 =>
        intro j u hj
        match j, hj with
        | 0, hj => simp at hj; subst hj; simp [Addr.add]
      case c2 => intro u hu; simp at hu; subst hu; rfl
      case c3 => unfold maxLen; omega
      case c4 => omega
      case c5 => simp; omega
      · intro v' w1 hown' hgrow _
        have R := be_step hlt HM.out hown'
        have hbel : Below B w w1 := by
          refine (hb.alloc (by omega) _).grown hgrow (by simp; omega) ?_
          intro q hq
          rcases hown.2 with ⟨h2, _⟩ | ⟨g, cap, cur, hv, hg, _⟩
          · rw [h2] at hq; simp [Value.ownBlock] at hq
          · rw [hv] at hq; simp [Value.ownBlock] at hq; omega
        clear hown' hgrow hown hlen
        go_wp2_with fail
        go_roundw
        case rel => exact ⟨k + 1, by omega, by go_num, R, hbel⟩
        case measure => simp [intOf]; omega
    · have hkk : (be size n).take k = be size n := List.take_of_length_le (by rw [be_length]; omega)
      rw [hkk] at hown
      have HO := Lib.hid hown
      clear hown hkk
      go_wp2_with fail
      go_ret
      exact ⟨_, rfl, HO.out, hb⟩
end Go.Proofs.YtbdbmoinoehneaaDoor
