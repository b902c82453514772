/- Package sum's Add and Of: the register after the bytes of the strings, by the two tables of 16. Plain facts on the register of the checksum: a byte into it is linear and one-to-one. No program. -/
import Derived.Test.YtiknfifiglooeaaDoorBase
import Derived.WalkKit
import Derived.WalkSpells
import Derived.WalkLawsBesides
import Derived.Lib.Hide
import Derived.Lib.Strings
import Derived.OneCell
import Derived.Deep.QuietTactic
import Derived.BigQuiet
namespace Go.Proofs.YtiknfifiglooeaaDoor
section
open Go.RowKit
set_option linter.unusedVariables false
set_option maxRecDepth 100000

def LO : List Int := [0x00000000, 0xf26b8303, 0xe13b70f7, 0x1350f3f4, 0xc79a971f, 0x35f1141c, 0x26a1e7e8, 0xd4ca64eb, 0x8ad958cf, 0x78b2dbcc, 0x6be22838, 0x9989ab3b, 0x4d43cfd0, 0xbf284cd3, 0xac78bf27, 0x5e133c24]
def HI : List Int := [0x00000000, 0x105ec76f, 0x20bd8ede, 0x30e349b1, 0x417b1dbc, 0x5125dad3, 0x61c69362, 0x7198540d, 0x82f63b78, 0x92a8fc17, 0xa24bb5a6, 0xb21572c9, 0xc38d26c4, 0xd3d3e1ab, 0xe330a81a, 0xf36e6f75]
def loN (i : Nat) : Nat := (LO.getD i 0).toNat
def hiN (i : Nat) : Nat := (HI.getD i 0).toNat
/-- The two tables lie as the program's text lays them. -/
def Tabs (w : World) : Prop := (0 < w.heap.size ∧ 1 < w.heap.size) ∧ (∀ j, j < 16 → w.cell? ⟨0, j, none⟩ = some (.int .u32 (hiN j : Int))) ∧ (∀ j, j < 16 → w.cell? ⟨1, j, none⟩ = some (.int .u32 (loN j : Int)))
theorem Tabs.below {w w' : World} (h : Tabs w) (k : Below w.heap.size w w') : Tabs w' := by
  obtain ⟨⟨h1, h2⟩, h3, h4⟩ := h
  refine ⟨⟨Nat.lt_of_lt_of_le h1 k.size, Nat.lt_of_lt_of_le h2 k.size⟩, fun j hj => ?_, fun j hj => ?_⟩
  · rw [k.cell (p := ⟨0, j, none⟩) h1]; exact h3 j hj
  · rw [k.cell (p := ⟨1, j, none⟩) h2]; exact h4 j hj
/-- A byte into the register. -/
def updN (r c : Nat) : Nat := r / 256 ^^^ hiN ((r % 256 ^^^ c) / 16) ^^^ loN ((r % 256 ^^^ c) % 16)
def updsN (r : Nat) (l : List UInt8) : Nat := l.foldl (fun r c => updN r c.toNat) r
theorem lo_lt : ∀ i, loN i < 4294967296 := by
  intro i
  by_cases h : i < 16
  · have : ∀ j, j < 16 → loN j < 4294967296 := by decide
    exact this i h
  · unfold loN LO; simp [List.getD, show (16 : Nat) ≤ i by omega]
theorem hi_lt : ∀ i, hiN i < 4294967296 := by
  intro i
  by_cases h : i < 16
  · have : ∀ j, j < 16 → hiN j < 4294967296 := by decide
    exact this i h
  · unfold hiN HI; simp [List.getD, show (16 : Nat) ≤ i by omega]

theorem lo_cast : ∀ i, Value.int .u32 (LO.getD i 0) = Value.int .u32 (loN i : Int) := by
  intro i
  have h : LO.getD i 0 = (loN i : Int) := by
    by_cases h : i < 16
    · have : ∀ j, j < 16 → LO.getD j 0 = (loN j : Int) := by decide
      exact this i h
    · unfold loN LO; simp [List.getD, show (16 : Nat) ≤ i by omega]
  rw [h]
theorem hi_cast : ∀ i, Value.int .u32 (HI.getD i 0) = Value.int .u32 (hiN i : Int) := by
  intro i
  have h : HI.getD i 0 = (hiN i : Int) := by
    by_cases h : i < 16
    · have : ∀ j, j < 16 → HI.getD j 0 = (hiN j : Int) := by decide
      exact this i h
    · unfold hiN HI; simp [List.getD, show (16 : Nat) ≤ i by omega]
  rw [h]
theorem xor_lt32 (a b : Nat) (ha : a < 4294967296) (hb : b < 4294967296) : a ^^^ b < 4294967296 := Nat.xor_lt_two_pow (n := 32) ha hb
theorem xor_lt8 (a b : Nat) (ha : a < 256) (hb : b < 256) : a ^^^ b < 256 := Nat.xor_lt_two_pow (n := 8) ha hb
theorem updN_lt (r c : Nat) (hr : r < 4294967296) : updN r c < 4294967296 := xor_lt32 _ _ (xor_lt32 _ _ (by omega) (hi_lt _)) (lo_lt _)
theorem updsN_lt (r : Nat) (l : List UInt8) (hr : r < 4294967296) : updsN r l < 4294967296 := by
  induction l generalizing r with
  | nil => exact hr
  | cons c l ih => exact ih _ (updN_lt _ _ hr)
theorem updsN_snoc (r : Nat) (s : ByteArray) (k : Nat) (h : k < s.size) : updsN r (s.data.toList.take (k + 1)) = updN (updsN r (s.data.toList.take k)) s[k].toNat := by
  have e : s.data.toList.take (k + 1) = s.data.toList.take k ++ [s[k]] := by
    rw [List.take_succ_eq_append_getElem (by simpa using h)]; rfl
  rw [e]; unfold updsN; rw [List.foldl_append]; rfl
theorem updsN_append (r : Nat) (l m : List UInt8) : updsN r (l ++ m) = updsN (updsN r l) m := by unfold updsN; rw [List.foldl_append]
def notN (r : Nat) : Nat := 4294967295 ^^^ r
theorem notN_lt (r : Nat) (hr : r < 4294967296) : notN r < 4294967296 := xor_lt32 _ _ (by omega) hr
theorem not_form (r : Nat) (hr : r < 4294967296) : bits BinOp.xor IntKind.u32 IntKind.u32.max (r : Int) = (notN r : Int) := u32_xor_nat 4294967295 r (by omega) hr
/-- The bytes of a list of strings. -/
def catN (zs : List ByteArray) : List UInt8 := zs.flatMap fun s => s.data.toList
theorem catN_snoc (zs : List ByteArray) (k : Nat) (h : k < zs.length) : catN (zs.take (k + 1)) = catN (zs.take k) ++ (zs.getD k ByteArray.empty).data.toList := by
  have e : zs.take (k + 1) = zs.take k ++ [zs.getD k ByteArray.empty] := by
    rw [List.take_succ_eq_append_getElem h, show zs.getD k ByteArray.empty = zs[k] by simp [h]]
  rw [e, catN, List.flatMap_append]; simp [catN]
def addN (r : Nat) (l : List UInt8) : Nat := notN (updsN (notN r) l)
theorem addN_lt (r : Nat) (l : List UInt8) (hr : r < 4294967296) : addN r l < 4294967296 := notN_lt _ (updsN_lt _ _ (notN_lt _ hr))

theorem below_drewN' {B : Nat} {a w : World} (h : Below B a w) (n : Nat) : Below B a (w.drewN n) := ⟨h.os, h.tape, h.output, h.size, h.block⟩
set_option maxHeartbeats 1000000 in
theorem add_any (r : Nat) (a1 : Option Addr) (b off cap : Nat) (zs : List ByteArray) (w : World) (hr : r < 4294967296) (ht : Tabs w) (ha : 0 < zs.length → a1 = some ⟨b, off, none⟩ ∧ b < w.heap.size) (hlen : zs.length ≤ 9223372036854775807)
    (hz : ∀ j, j < zs.length → (zs.getD j ByteArray.empty).size ≤ maxLen)
    (hc : ∀ j, j < zs.length → w.cell? ⟨b, off + j, none⟩ = some (.string (zs.getD j ByteArray.empty))) :
    Calls Tryd.prog 72 #[.int .u32 r, .slice a1 zs.length cap] w fun e w' => e = .returned (.int .u32 (addN r (catN zs))) ∧ Below w.heap.size w w' := by
  have HT := Lib.hid ht
  have HC := Lib.hid hc
  have HZ := Lib.hid hz
  have HA := Lib.hid ha
  obtain ⟨V, hV⟩ : ∃ V, V = addN r (catN zs) := ⟨_, rfl⟩
  rw [← hV]
  have HV := Lib.hid hV
  have hnf := not_form r hr
  have hn0 := notN_lt r hr
  clear ht hc hz ha hV
  go_enter Tryd.func72, Tryd.ntmps72
  go_wp2_with fail
  go_loopw [5, 14] (fun x i wr => ∃ (k q : Nat), k ≤ zs.length ∧ i = .int .i64 k ∧ q < 4294967296 ∧ x = .int .u32 (q : Int) ∧ Hid (q = updsN (notN r) (catN (zs.take k))) ∧ Below w.heap.size w wr) (fun _ i _ => zs.length - (intOf i).toNat)
  case atStart => exact ⟨0, notN r, Nat.zero_le _, rfl, hn0, rfl, rfl, Below.refl _ _⟩
  case round =>
    obtain ⟨k, q0, hk, rfl, hq0, rfl, HQ0, hbw⟩ := hrel
    by_cases hlt : k < zs.length
    · obtain ⟨ha, hbb⟩ := HA.out (by omega)
      subst ha
      have hcell : wr.cell? ⟨b, off + k, none⟩ = some (.string (zs.getD k ByteArray.empty)) := (hbw.cell (p := ⟨b, off + k, none⟩) hbb).trans (HC.out k hlt)
      have hzk := HZ.out k hlt
      have HQ1 := Lib.hid (show updsN (notN r) (catN (zs.take (k + 1))) = updsN q0 (zs.getD k ByteArray.empty).data.toList by rw [catN_snoc zs k hlt, updsN_append, HQ0.out])
      generalize zs.getD k ByteArray.empty = s at *
      unfold maxLen at hzk
      clear HQ0
      go_wp2_with fail
      go_loopw [5, 20] (fun x i wi => ∃ (j q : Nat), j ≤ s.size ∧ i = .int .i64 j ∧ q < 4294967296 ∧ x = .int .u32 (q : Int) ∧ Hid (q = updsN q0 (s.data.toList.take j)) ∧ Below w.heap.size w wi) (fun _ i _ => s.size - (intOf i).toNat)
      case atStart => exact ⟨0, q0, Nat.zero_le _, rfl, hq0, rfl, rfl, hbw⟩
      case round =>
        obtain ⟨j, q, hj, rfl, hq, rfl, HQ, hbi⟩ := hrel
        by_cases hlt2 : j < s.size
        · have HQ2 := Lib.hid (show updN q s[j].toNat = updsN q0 (s.data.toList.take (j + 1)) by rw [updsN_snoc q0 s j hlt2, HQ.out])
          have hcl := s[j].toNat_lt
          obtain ⟨B, hB⟩ : ∃ B : Nat, B = (q % 256) ^^^ s[j].toNat := ⟨_, rfl⟩
          have hB8 : B < 256 := by rw [hB]; exact xor_lt8 _ _ (by omega) hcl
          have hx8 : bits BinOp.xor IntKind.u8 ((q : Int) % 256) (s[j].toNat : Int) = (B : Int) := by
            have h := u8_xor_nat (q % 256) s[j].toNat (by omega) hcl
            rw [hB, ← h]
            rfl
          have HU := Lib.hid (show updN q s[j].toNat = q / 256 ^^^ hiN (B / 16) ^^^ loN (B % 16) by unfold updN; rw [← hB])
          have hT := HT.out.below (hbi.mono (Nat.le_refl _))
          have hh : wr.cell? ⟨0, B / 16, none⟩ = some (.int .u32 (hiN (B / 16) : Int)) := hT.2.1 (B / 16) (by omega)
          have hl : wr.cell? ⟨1, B % 16, none⟩ = some (.int .u32 (loN (B % 16) : Int)) := hT.2.2 (B % 16) (by omega)
          have ha15 : bits BinOp.and IntKind.u8 (B : Int) 15 = ((B % 16 : Nat) : Int) := by rw [u8_and15 _ (by omega) (by omega)]; omega
          have hxx : bits BinOp.xor IntKind.u32 (bits BinOp.xor IntKind.u32 ((q : Int) / 256) (hiN (B / 16) : Int)) (loN (B % 16) : Int) = ((q / 256 ^^^ hiN (B / 16) ^^^ loN (B % 16) : Nat) : Int) := by
            have h1 := u32_xor_nat (q / 256) (hiN (B / 16)) (by omega) (hi_lt _)
            have h2 := u32_xor_nat (q / 256 ^^^ hiN (B / 16)) (loN (B % 16)) (xor_lt32 _ _ (by omega) (hi_lt _)) (lo_lt _)
            rw [← h2, ← h1]
            rfl
          have HXX := Lib.hid hxx
          clear hB hT hxx
          go_wp2_with fail
          go_quiet (fail)
          rw [HXX.out, ← HU.out]
          have hqq := updN_lt q s[j].toNat hq
          clear HXX HU hh hl ha15 hx8
          go_wp2_with fail
          go_roundw
          case rel => exact ⟨j + 1, updN q s[j].toNat, by omega, by go_num, hqq, rfl, HQ2, below_drewN' hbi _⟩
          case measure => simp [intOf]; omega
        · have hjs : s.data.toList.take j = s.data.toList := List.take_of_length_le (by simp; omega)
          rw [hjs, ← HQ1.out] at HQ
          clear hjs
          go_wp2_with fail
          go_roundw
          case rel => exact ⟨k + 1, q, by omega, by go_num, hq, rfl, HQ, hbi⟩
          case measure => simp [intOf]; omega
    · have hkk : zs.take k = zs := List.take_of_length_le (by omega)
      have HQV : Hid ((notN q0 : Int) = (V : Int)) := by
        show (notN q0 : Int) = (V : Int)
        rw [HV.out, HQ0.out, hkk]
        rfl
      have hnq := not_form q0 hq0
      clear hkk
      go_wp2_with fail
      go_ret
      exact ⟨by rw [← HQV.out]; rfl, hbw⟩

theorem of_any (a1 : Option Addr) (b off cap : Nat) (zs : List ByteArray) (w : World) (ht : Tabs w) (ha : 0 < zs.length → a1 = some ⟨b, off, none⟩ ∧ b < w.heap.size) (hlen : zs.length ≤ 9223372036854775807)
    (hz : ∀ j, j < zs.length → (zs.getD j ByteArray.empty).size ≤ maxLen)
    (hc : ∀ j, j < zs.length → w.cell? ⟨b, off + j, none⟩ = some (.string (zs.getD j ByteArray.empty))) :
    Calls Tryd.prog 31 #[.slice a1 zs.length cap] w fun e w' => e = .returned (.int .u32 (addN 0 (catN zs))) ∧ Below w.heap.size w w' := by
  have H := Lib.hid (add_any 0 a1 b off cap zs w (by omega) ht ha hlen hz hc)
  clear hz hc ha ht
  go_enter Tryd.func31, Tryd.ntmps31
  go_wp2_with fail
  refine H.out.mono ?_
  rintro e w1 ⟨rfl, hb⟩
  go_wp2_with fail
  go_ret
  exact ⟨rfl, hb⟩

/-- One string, in a slice that has just been made. -/
theorem of_one (s : ByteArray) (w : World) (N : Nat) (hN : N = w.heap.size) (ht : Tabs w) (hs : s.size ≤ maxLen) :
    Calls Tryd.prog 31 #[.slice (some ⟨N, 0, none⟩) 1 1] (w.alloc (.cells #[.string s] 9)) fun e w' => e = .returned (.int .u32 (addN 0 s.data.toList)) ∧ Below w.heap.size w w' := by
  subst hN
  have h0 := (Below.refl w.heap.size w).alloc (Nat.le_refl _) (.cells #[.string s] 9)
  refine (of_any _ w.heap.size 0 1 [s] (w.alloc (.cells #[.string s] 9)) (ht.below h0) (fun _ => ⟨rfl, by simp⟩) (by simp) ?_ ?_).mono ?_
  · intro j hj
    match j, hj with
    | 0, _ => exact hs
  · intro j hj
    match j, hj with
    | 0, _ => simp [World.cell?_alloc_at]
  · rintro e w' ⟨he, hb⟩
    refine ⟨?_, h0.trans (hb.mono (by simp))⟩
    rw [he]
    simp [catN]
theorem add_one (r : Nat) (s : ByteArray) (w : World) (N : Nat) (hN : N = w.heap.size) (hr : r < 4294967296) (ht : Tabs w) (hs : s.size ≤ maxLen) :
    Calls Tryd.prog 72 #[.int .u32 r, .slice (some ⟨N, 0, none⟩) 1 1] (w.alloc (.cells #[.string s] 9)) fun e w' => e = .returned (.int .u32 (addN r s.data.toList)) ∧ Below w.heap.size w w' := by
  subst hN
  have h0 := (Below.refl w.heap.size w).alloc (Nat.le_refl _) (.cells #[.string s] 9)
  refine (add_any r _ w.heap.size 0 1 [s] (w.alloc (.cells #[.string s] 9)) hr (ht.below h0) (fun _ => ⟨rfl, by simp⟩) (by simp) ?_ ?_).mono ?_
  · intro j hj
    match j, hj with
    | 0, _ => exact hs
  · intro j hj
    match j, hj with
    | 0, _ => simp [World.cell?_alloc_at]
  · rintro e w' ⟨he, hb⟩
    refine ⟨?_, h0.trans (hb.mono (by simp))⟩
    rw [he]
    simp [catN]
theorem of_none (p : Option Addr) (cap : Nat) (w : World) (ht : Tabs w) :
    Calls Tryd.prog 31 #[.slice p 0 cap] w fun e w' => e = .returned (.int .u32 0) ∧ Below w.heap.size w w' :=
  of_any p 0 0 cap [] w ht (fun h => absurd h (by simp)) (by simp) (fun j hj => absurd hj (by simp)) (fun j hj => absurd hj (by simp))
end
section
set_option linter.unusedVariables false

def tabN (b : Nat) : Nat := hiN (b / 16) ^^^ loN (b % 16)
/-- Eight bits on. -/
def advN (x : Nat) : Nat := x / 256 ^^^ tabN (x % 256)
def invL : List Nat := [0, 241, 226, 19, 196, 53, 38, 215, 136, 121, 106, 155, 76, 189, 174, 95, 16, 225, 242, 3, 212, 37, 54, 199, 152, 105, 122, 139, 92, 173, 190, 79, 32, 209, 194, 51, 228, 21, 6, 247, 168, 89, 74, 187, 108, 157, 142, 127, 48, 193, 210, 35, 244, 5, 22, 231, 184, 73, 90, 171, 124, 141, 158, 111, 177, 64, 83, 162, 117, 132, 151, 102, 57, 200, 219, 42, 253, 12, 31, 238, 161, 80, 67, 178, 101, 148, 135, 118, 41, 216, 203, 58, 237, 28, 15, 254, 145, 96, 115, 130, 85, 164, 183, 70, 25, 232, 251, 10, 221, 44, 63, 206, 129, 112, 99, 146, 69, 180, 167, 86, 9, 248, 235, 26, 205, 60, 47, 222, 98, 147, 128, 113, 166, 87, 68, 181, 234, 27, 8, 249, 46, 223, 204, 61, 114, 131, 144, 97, 182, 71, 84, 165, 250, 11, 24, 233, 62, 207, 220, 45, 66, 179, 160, 81, 134, 119, 100, 149, 202, 59, 40, 217, 14, 255, 236, 29, 82, 163, 176, 65, 150, 103, 116, 133, 218, 43, 56, 201, 30, 239, 252, 13, 211, 34, 49, 192, 23, 230, 245, 4, 91, 170, 185, 72, 159, 110, 125, 140, 195, 50, 33, 208, 7, 246, 229, 20, 75, 186, 169, 88, 143, 126, 109, 156, 243, 2, 17, 224, 55, 198, 213, 36, 123, 138, 153, 104, 191, 78, 93, 172, 227, 18, 1, 240, 39, 214, 197, 52, 107, 154, 137, 120, 175, 94, 77, 188]
theorem tab_inv : ∀ b, b < 256 → invL.getD (tabN b / 16777216) 0 = b := by decide +kernel
theorem tab_lt (b : Nat) : tabN b < 4294967296 := xor_lt32 _ _ (hi_lt _) (lo_lt _)
theorem adv_lt (x : Nat) (h : x < 4294967296) : advN x < 4294967296 := xor_lt32 _ _ (by omega) (tab_lt _)
theorem xor_div (a b k : Nat) : (a ^^^ b) / 2 ^ k = a / 2 ^ k ^^^ b / 2 ^ k := by
  rw [← Nat.shiftRight_eq_div_pow, ← Nat.shiftRight_eq_div_pow, ← Nat.shiftRight_eq_div_pow, Nat.shiftRight_xor_distrib]
theorem xor_mod (a b k : Nat) : (a ^^^ b) % 2 ^ k = a % 2 ^ k ^^^ b % 2 ^ k := Nat.xor_mod_two_pow
theorem hi_lin : ∀ a, a < 16 → ∀ b, b < 16 → hiN (a ^^^ b) = hiN a ^^^ hiN b := by decide +kernel
theorem lo_lin : ∀ a, a < 16 → ∀ b, b < 16 → loN (a ^^^ b) = loN a ^^^ loN b := by decide +kernel
theorem xor4 (a b c d : Nat) : (a ^^^ b) ^^^ (c ^^^ d) = (a ^^^ c) ^^^ (b ^^^ d) := by
  rw [Nat.xor_assoc, Nat.xor_assoc, ← Nat.xor_assoc b, ← Nat.xor_assoc c, Nat.xor_comm b c]
theorem tab_lin (a b : Nat) (ha : a < 256) (hb : b < 256) : tabN (a ^^^ b) = tabN a ^^^ tabN b := by
  unfold tabN
  rw [show (a ^^^ b) / 16 = a / 16 ^^^ b / 16 from xor_div a b 4, show (a ^^^ b) % 16 = a % 16 ^^^ b % 16 from xor_mod a b 4,
    hi_lin _ (by omega) _ (by omega), lo_lin _ (by omega) _ (by omega), xor4]
theorem adv_lin (x y : Nat) : advN (x ^^^ y) = advN x ^^^ advN y := by
  unfold advN
  rw [show (x ^^^ y) / 256 = x / 256 ^^^ y / 256 from xor_div x y 8, show (x ^^^ y) % 256 = x % 256 ^^^ y % 256 from xor_mod x y 8,
    tab_lin _ _ (by omega) (by omega), xor4]
theorem adv_top (x : Nat) (h : x < 4294967296) : advN x / 16777216 = tabN (x % 256) / 16777216 := by
  unfold advN
  rw [show (x / 256 ^^^ tabN (x % 256)) / 16777216 = x / 256 / 16777216 ^^^ tabN (x % 256) / 16777216 from xor_div _ _ 24, show x / 256 / 16777216 = 0 by omega, Nat.zero_xor]
/-- Where the step leaves nothing above 24 bits, the lowest byte was nought, and the step was a shift. -/
theorem adv_small (x : Nat) (h : x < 4294967296) (hs : advN x < 16777216) : x = 256 * advN x := by
  have h1 := adv_top x h
  rw [show advN x / 16777216 = 0 by omega] at h1
  have h2 := tab_inv (x % 256) (by omega)
  rw [← h1] at h2
  have h3 : x % 256 = 0 := by rw [← h2]; rfl
  unfold advN
  rw [h3, show tabN 0 = 0 from rfl, Nat.xor_zero]
  omega
theorem xor_eq_zero {a b : Nat} (h : a ^^^ b = 0) : a = b := by
  have : (a ^^^ b) ^^^ b = b := by rw [h, Nat.zero_xor]
  rwa [Nat.xor_assoc, Nat.xor_self, Nat.xor_zero] at this
theorem adv_inj (x y : Nat) (hx : x < 4294967296) (hy : y < 4294967296) (h : advN x = advN y) : x = y := by
  have h0 : advN (x ^^^ y) = 0 := by rw [adv_lin, h, Nat.xor_self]
  have := adv_small (x ^^^ y) (xor_lt32 _ _ hx hy) (by omega)
  rw [h0] at this
  exact xor_eq_zero (by simpa using this)
theorem xor_byte (r c : Nat) (hc : c < 256) : (r ^^^ c) / 256 = r / 256 ∧ (r ^^^ c) % 256 = r % 256 ^^^ c := by
  rw [show (r ^^^ c) / 256 = r / 256 ^^^ c / 256 from xor_div r c 8, show (r ^^^ c) % 256 = r % 256 ^^^ c % 256 from xor_mod r c 8, show c / 256 = 0 by omega, Nat.mod_eq_of_lt hc]
  exact ⟨Nat.xor_zero _, rfl⟩
theorem upd_adv (r c : Nat) (hc : c < 256) : updN r c = advN (r ^^^ c) := by
  obtain ⟨h1, h2⟩ := xor_byte r c hc
  unfold advN updN tabN
  rw [h1, h2, Nat.xor_assoc]
theorem upd_lin (r r' c c' : Nat) (hc : c < 256) (hc' : c' < 256) : updN (r ^^^ r') (c ^^^ c') = updN r c ^^^ updN r' c' := by
  rw [upd_adv _ _ (xor_lt8 _ _ hc hc'), upd_adv _ _ hc, upd_adv _ _ hc', ← adv_lin, xor4]
theorem xor_cancel_left {a b c : Nat} (h : a ^^^ b = a ^^^ c) : b = c := by
  have := congrArg (fun z => a ^^^ z) h
  simpa [← Nat.xor_assoc] using this
theorem xor_cancel_right {a b c : Nat} (h : b ^^^ a = c ^^^ a) : b = c := by
  rw [Nat.xor_comm b, Nat.xor_comm c] at h; exact xor_cancel_left h
theorem upd_inj_r (r r' c : Nat) (hr : r < 4294967296) (hr' : r' < 4294967296) (hc : c < 256) (h : updN r c = updN r' c) : r = r' := by
  rw [upd_adv _ _ hc, upd_adv _ _ hc] at h
  exact xor_cancel_right (adv_inj _ _ (xor_lt32 _ _ hr (by omega)) (xor_lt32 _ _ hr' (by omega)) h)
theorem upd_inj_c (r c c' : Nat) (hr : r < 4294967296) (hc : c < 256) (hc' : c' < 256) (h : updN r c = updN r c') : c = c' := by
  rw [upd_adv _ _ hc, upd_adv _ _ hc'] at h
  exact xor_cancel_left (adv_inj _ _ (xor_lt32 _ _ hr (by omega)) (xor_lt32 _ _ hr (by omega)) h)
theorem upds_inj (l : List UInt8) : ∀ r r' : Nat, r < 4294967296 → r' < 4294967296 → updsN r l = updsN r' l → r = r' := by
  induction l with
  | nil => intro r r' _ _ h; exact h
  | cons c l ih =>
    intro r r' hr hr' h
    exact upd_inj_r r r' c.toNat hr hr' c.toNat_lt (ih _ _ (updN_lt _ _ hr) (updN_lt _ _ hr') h)
theorem not_inj {a b : Nat} (h : notN a = notN b) : a = b := by
  unfold notN at h
  exact xor_cancel_left h
theorem xor_twice (k a : Nat) : k ^^^ (k ^^^ a) = a := by rw [← Nat.xor_assoc, Nat.xor_self, Nat.zero_xor]
theorem not_def (a : Nat) : notN a = 4294967295 ^^^ a := rfl
theorem not_not (a : Nat) : notN (notN a) = a :=
  ((congrArg notN (not_def a)).trans (not_def _)).trans (xor_twice 4294967295 a)
theorem add_append (r : Nat) (l m : List UInt8) : addN r (l ++ m) = addN (addN r l) m := by unfold addN; rw [updsN_append, not_not]
theorem add_nil (r : Nat) : addN r [] = r := not_not r
/-- A byte more, and another byte. -/
theorem add_byte (r : Nat) (a b : UInt8) (hr : r < 4294967296) : addN r [a] = addN r [b] ↔ a = b := by
  constructor
  · intro h
    have := upd_inj_c (notN r) a.toNat b.toNat (notN_lt r hr) a.toNat_lt b.toNat_lt (not_inj h)
    exact UInt8.toNat_inj.1 this
  · rintro rfl; rfl
end
end Go.Proofs.YtiknfifiglooeaaDoor
