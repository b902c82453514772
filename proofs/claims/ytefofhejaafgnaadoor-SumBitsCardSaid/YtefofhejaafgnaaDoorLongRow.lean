/- The row of bits that the long division works in. -/
import Derived.Test.YtefofhejaafgnaaDoorLongMath
import Derived.Laws.AppendOwn
import Derived.OwnWalk
import Derived.Deep.DeepHandedRow
namespace Go.Proofs.YtefofhejaafgnaaDoor.sumLong
open Go.ChangeShapes Go.WideShapes Go.ChangeAt Go.RowKit
open Go.ChangeMaps (open_string shut_string)
set_option linter.unusedVariables false

theorem info_u8 : (Tryd.prog.info? 5).map (fun i => (i.zero, i.size, i.bytes)) = some (some (.int .u8 0), 1, 1) := by kernel_rfl
theorem und_bytes : Tryd.prog.underlying 34 = some (.slice 5) := by kernel_rfl
def cellsF (f : Nat → Nat) (m : Nat) : List Value := (List.range m).map fun j => Value.int .u8 (f j : Int)
theorem cellsF_succ (f : Nat → Nat) (m : Nat) : cellsF f (m + 1) = cellsF f m ++ [.int .u8 (f m : Int)] := by unfold cellsF; rw [List.range_succ, List.map_append]; rfl
theorem cellsF_length (f : Nat → Nat) (m : Nat) : (cellsF f m).length = m := by simp [cellsF]
/-- The slice value v holds so many bits, in a row of the call's own. -/
def Bs (w : World) (B : Nat) (v : Value) (m : Nat) (f : Nat → Nat) : Prop := w.ownsRow B 5 1 v m (cellsF f m)
theorem Bs.below {w w' : World} {B m : Nat} {v : Value} {f : Nat → Nat} (h : Bs w B v m f) (k : Below w.heap.size w w') : Bs w' B v m f := by
  obtain ⟨h1, h2⟩ := h
  refine ⟨h1, ?_⟩
  rcases h2 with h2 | ⟨g, cap, cur, hv, hg, hh, r⟩
  · exact .inl h2
  · exact .inr ⟨g, cap, cur, hv, hg, (k.block g (lt_of_block hh)).trans hh, r⟩
theorem Bs.own {w : World} {B m : Nat} {v : Value} {f : Nat → Nat} (h : Bs w B v m f) : ∀ y, v.ownBlock = some y → B ≤ y := by
  intro y hy
  rcases h.2 with ⟨h2, _⟩ | ⟨g, cap, cur, hv, hg, _⟩
  · rw [h2] at hy; simp [Value.ownBlock] at hy
  · rw [hv] at hy; simp [Value.ownBlock] at hy; omega
theorem Bs.add {w : World} {B m m' : Nat} {v : Value} {f : Nat → Nat} (h : w.ownsRow B 5 1 v (m + 1) (cellsF f m ++ [.int .u8 (f m : Int)])) (hm : m' = m + 1) : Bs w B v m' f := by
  unfold Bs
  rw [hm, cellsF_succ]
  exact h
theorem new_bit (w : World) (c : Int) (j : Nat) (u : Value) (hj : [Value.int .u8 c][j]? = some u) :
    (w.alloc (.cells #[.int .u8 c] 5)).cell? ((⟨w.heap.size, 0, none⟩ : Addr).add j) = some u := by
  match j, hj with
  | 0, hj => simp at hj; subst hj; simp [Addr.add]
theorem new_bit_one (c : Int) : ∀ u ∈ [Value.int .u8 c], u.oneCell' = true := by
  intro u hu; simp at hu; subst hu; rfl

/-- So many bits in a block. -/
def BitRow (w : World) (g m : Nat) (f : Nat → Nat) : Prop := ∃ cur, w.heap[g]? = some (.cells cur 5 (0, 0)) ∧ ∀ j, j < m → cur[j]? = some (.int .u8 (f j : Int))
theorem Bs.row {w : World} {B m : Nat} {v : Value} {f : Nat → Nat} (h : Bs w B v m f) (hm : 0 < m) : ∃ g c, v = .slice (some ⟨g, 0, none⟩) m c ∧ B ≤ g ∧ BitRow w g m f := by
  rcases h.2 with ⟨_, h3⟩ | ⟨g, cap, cur, rfl, hg, hh, hc1, hc2, hc3, hc4⟩
  · omega
  · refine ⟨g, cap, rfl, hg, cur, hh, fun j hj => ?_⟩
    have hx : (cellsF f m)[j]? = some (.int .u8 (f j : Int)) := by simp [cellsF, hj]
    rw [← hc4, List.getElem?_take] at hx
    simp only [Nat.mul_one, hj, if_true] at hx
    simpa using hx
theorem BitRow.lt {w : World} {g m : Nat} {f : Nat → Nat} (h : BitRow w g m f) : g < w.heap.size := by
  obtain ⟨cur, hh, _⟩ := h
  exact lt_of_block hh
theorem BitRow.cell {w : World} {g m : Nat} {f : Nat → Nat} (h : BitRow w g m f) (i : Nat) (hi : i < m) : w.cell? ⟨g, i, none⟩ = some (.int .u8 (f i : Int)) := by
  obtain ⟨cur, hh, hc⟩ := h
  simp only [World.cell?, hh]
  simpa using hc i hi
theorem BitRow.free {w : World} {g m : Nat} {f : Nat → Nat} (h : BitRow w g m f) (i : Nat) : w.frozen? ⟨g, i, none⟩ = false := by
  obtain ⟨cur, hh, hc⟩ := h
  simp [World.frozen?, hh]
theorem BitRow.set {w : World} {g m : Nat} {f f' : Nat → Nat} (h : BitRow w g m f) (i x : Nat) (hi : i < m) (hf : ∀ j, f' j = if j = i then x else f j) : BitRow (w.setCell ⟨g, i, none⟩ (.int .u8 (x : Int))) g m f' := by
  obtain ⟨cur, hh, hc⟩ := h
  have hlt := lt_of_block hh
  have h' : w.heap[g] = .cells cur 5 (0, 0) := by simpa [Array.getElem?_eq_getElem hlt] using hh
  refine ⟨cur.setIfInBounds i (.int .u8 (x : Int)), ?_, fun j hj => ?_⟩
  · show (w.heap.modify g _)[g]? = _
    rw [Array.getElem?_eq_getElem (by simpa using hlt), Array.getElem_modify_self, h']
    simp
  · rw [Array.getElem?_setIfInBounds, hf j]
    by_cases hji : j = i
    · have hs : i < cur.size := by
        have := hc i hi
        exact (Array.getElem?_eq_some_iff.1 this).1
      rw [if_pos hji.symm, if_pos hji, if_pos hs]
    · rw [if_neg (fun h => hji h.symm), if_neg hji]
      exact hc j hj
theorem BitRow.same {w : World} {g m : Nat} {f f' : Nat → Nat} (h : BitRow w g m f) (hf : ∀ j, f' j = f j) : BitRow w g m f' := by
  obtain ⟨cur, hh, hc⟩ := h
  exact ⟨cur, hh, fun j hj => by rw [hf]; exact hc j hj⟩
theorem Bs.shape {w : World} {B m : Nat} {v : Value} {f : Nat → Nat} (h : Bs w B v m f) : ∃ a c, v = .slice a m c := by
  rcases h.2 with ⟨rfl, h3⟩ | ⟨g, cap, cur, rfl, _⟩
  · exact ⟨none, 0, by rw [h3]⟩
  · exact ⟨_, cap, rfl⟩
theorem u8_and1 (a : Nat) (h : a < 256) : bits BinOp.and IntKind.u8 (a : Int) 1 = ((a % 2 : Nat) : Int) := by
  rw [show (1 : Int) = ((1 : Nat) : Int) from rfl, u8_and_nat a 1 h (by decide), Nat.and_one_is_mod]
theorem pol_form : ∀ k, k < 33 → bits BinOp.and IntKind.u64 (4812730177 / 2 ^ (32 - k)) 1 % 256 = (polN k : Int) := by decide +kernel
theorem or_form (Y k b : Nat) (hy : Y < 4294967296) (hk : k < 32) (hb : b < 2) (he : b ^^^ 1 = Y / 2 ^ k % 2) :
    bits BinOp.or IntKind.u32 ((Y : Int) % 2 ^ k) (bits BinOp.xor IntKind.u8 (b : Int) 1 % 4294967296 * 2 ^ k % 4294967296) = ((Y % 2 ^ (k + 1) : Nat) : Int) := by
  have hx : bits BinOp.xor IntKind.u8 (b : Int) 1 = ((b ^^^ 1 : Nat) : Int) := u8_xor_nat b 1 (by omega) (by omega)
  have hp : 2 ^ k < 4294967296 := Nat.pow_lt_pow_right (n := 32) (by omega) hk
  have hc : Y / 2 ^ k % 2 < 2 := Nat.mod_lt _ (by omega)
  have hm : Y / 2 ^ k % 2 * 2 ^ k < 4294967296 := by
    rcases (by omega : Y / 2 ^ k % 2 = 0 ∨ Y / 2 ^ k % 2 = 1) with h | h
    · rw [h]; omega
    · rw [h]; omega
  have e1 : ((Y : Int) % 2 ^ k) = ((Y % 2 ^ k : Nat) : Int) := by simp
  have e2 : ((Y / 2 ^ k % 2 : Nat) : Int) % 4294967296 * 2 ^ k % 4294967296 = ((Y / 2 ^ k % 2 * 2 ^ k : Nat) : Int) := by
    have e0 : ((Y / 2 ^ k % 2 : Nat) : Int) % 4294967296 = ((Y / 2 ^ k % 2 : Nat) : Int) := Int.emod_eq_of_lt (by omega) (by omega)
    have e3 : ((Y / 2 ^ k % 2 : Nat) : Int) * 2 ^ k = ((Y / 2 ^ k % 2 * 2 ^ k : Nat) : Int) := by rw [Int.natCast_mul, Int.natCast_pow]; rfl
    rw [e0, e3]
    omega
  rw [hx, he, e1, e2, u32_or_nat _ _ (Nat.lt_of_le_of_lt (Nat.mod_le _ _) hy) hm, or_bit]
theorem dat_bit (s : ByteArray) (i k : Nat) (hi : i < s.size) (hk : k < 8) : bits BinOp.and IntKind.u8 ((s[i].toNat : Int) / 2 ^ k) 1 = (dat s.data.toList (8 * i + k) : Int) := by
  have e : ((s[i].toNat : Int) / 2 ^ k) = ((s[i].toNat / 2 ^ k : Nat) : Int) := by simp
  have hlt : s[i].toNat / 2 ^ k < 256 := Nat.lt_of_le_of_lt (Nat.div_le_self _ _) (UInt8.toNat_lt _)
  rw [e, u8_and1 _ hlt]
  unfold dat
  rw [show (8 * i + k) / 8 = i by omega, show (8 * i + k) % 8 = k by omega, List.getD_eq_getElem?_getD, List.getElem?_eq_getElem (by rw [← Lib.size_eq]; exact hi)]
  rfl
end Go.Proofs.YtefofhejaafgnaaDoor.sumLong
