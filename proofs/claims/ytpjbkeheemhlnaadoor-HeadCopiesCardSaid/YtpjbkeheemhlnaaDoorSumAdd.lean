/- Package sum's Add and Of: the register after the bytes of the strings, by the two tables of 16. -/
import Derived.Test.YtpjbkeheemhlnaaDoorBase
import Derived.WalkKit
import Derived.WalkSpells
import Derived.WalkLawsBesides
import Derived.Lib.Hide
import Derived.Lib.Strings
import Derived.OneCell
import Derived.Deep.QuietTactic
import Derived.BigQuiet
namespace Go.Proofs.YtpjbkeheemhlnaaDoor
open Go.RowKit
set_option linter.unusedVariables false
set_option maxRecDepth 100000

def LO : List Int := [0x00000000, 0xf26b8303, 0xe13b70f7, 0x1350f3f4, 0xc79a971f, 0x35f1141c, 0x26a1e7e8, 0xd4ca64eb, 0x8ad958cf, 0x78b2dbcc, 0x6be22838, 0x9989ab3b, 0x4d43cfd0, 0xbf284cd3, 0xac78bf27, 0x5e133c24]
def HI : List Int := [0x00000000, 0x105ec76f, 0x20bd8ede, 0x30e349b1, 0x417b1dbc, 0x5125dad3, 0x61c69362, 0x7198540d, 0x82f63b78, 0x92a8fc17, 0xa24bb5a6, 0xb21572c9, 0xc38d26c4, 0xd3d3e1ab, 0xe330a81a, 0xf36e6f75]
def loN (i : Nat) : Nat := (LO.getD i 0).toNat
def hiN (i : Nat) : Nat := (HI.getD i 0).toNat
/-- The two tables lie as the program's text lays them. -/
def Tabs (w : World) : Prop := (0 < w.heap.size ∧ 1 < w.heap.size) ∧ (∀ j, j < 16 → w.cell? ⟨0, j, none⟩ = some (.int .u32 (hiN j : Int))) ∧ (∀ j, j < 16 → w.cell? ⟨1, j, none⟩ = some (.int .u32 (loN j : Int)))
theorem Tabs.below {w w' : World} (h : Tabs w) (k : Below w.heap.size w w') : Tabs w' := by
  obtain ⟨⟨h1, h2⟩, h3, h4⟩ := h
  refine ⟨⟨Nat.lt_of_lt_of_le h1 k.size, Nat.lt_of_lt_of_le h2 k.size⟩, fun j hj => ?_, fun j hj => ?_⟩
  · rw [k.cell (p := ⟨0, j, none⟩) h1]; exact h3 j hj
  · rw [k.cell (p := ⟨1, j, none⟩) h2]; exact h4 j hj
/-- A byte into the register. -/
def updN (r c : Nat) : Nat := r / 256 ^^^ hiN ((r % 256 ^^^ c) / 16) ^^^ loN ((r % 256 ^^^ c) % 16)
def updsN (r : Nat) (l : List UInt8) : Nat := l.foldl (fun r c => updN r c.toNat) r
theorem lo_lt : ∀ i, loN i < 4294967296 := by
  intro i
  by_cases h : i < 16
  · have : ∀ j, j < 16 → loN j < 4294967296 := by decide
    exact this i h
  · unfold loN LO; simp [List.getD, show (16 : Nat) ≤ i by omega]
theorem hi_lt : ∀ i, hiN i < 4294967296 := by
  intro i
  by_cases h : i < 16
  · have : ∀ j, j < 16 → hiN j < 4294967296 := by decide
    exact this i h
  · unfold hiN HI; simp [List.getD, show (16 : Nat) ≤ i by omega]

theorem lo_cast : ∀ i, Value.int .u32 (LO.getD i 0) = Value.int .u32 (loN i : Int) := by
  intro i
  have h : LO.getD i 0 = (loN i : Int) := by
    by_cases h : i < 16
    · have : ∀ j, j < 16 → LO.getD j 0 = (loN j : Int) := by decide
      exact this i h
    · unfold loN LO; simp [List.getD, show (16 : Nat) ≤ i by omega]
  rw [h]
theorem hi_cast : ∀ i, Value.int .u32 (HI.getD i 0) = Value.int .u32 (hiN i : Int) := by
  intro i
  have h : HI.getD i 0 = (hiN i : Int) := by
    by_cases h : i < 16
    · have : ∀ j, j < 16 → HI.getD j 0 = (hiN j : Int) := by decide
      exact this i h
    · unfold hiN HI; simp [List.getD, show (16 : Nat) ≤ i by omega]
  rw [h]
theorem xor_lt32 (a b : Nat) (ha : a < 4294967296) (hb : b < 4294967296) : a ^^^ b < 4294967296 := Nat.xor_lt_two_pow (n := 32) ha hb
theorem xor_lt8 (a b : Nat) (ha : a < 256) (hb : b < 256) : a ^^^ b < 256 := Nat.xor_lt_two_pow (n := 8) ha hb
theorem updN_lt (r c : Nat) (hr : r < 4294967296) : updN r c < 4294967296 := xor_lt32 _ _ (xor_lt32 _ _ (by omega) (hi_lt _)) (lo_lt _)
theorem updsN_lt (r : Nat) (l : List UInt8) (hr : r < 4294967296) : updsN r l < 4294967296 := by
  induction l generalizing r with
  | nil => exact hr
  | cons c l ih => exact ih _ (updN_lt _ _ hr)
theorem updsN_snoc (r : Nat) (s : ByteArray) (k : Nat) (h : k < s.size) : updsN r (s.data.toList.take (k + 1)) = updN (updsN r (s.data.toList.take k)) s[k].toNat := by
  have e : s.data.toList.take (k + 1) = s.data.toList.take k ++ [s[k]] := by
    rw [List.take_succ_eq_append_getElem (by simpa using h)]; rfl
  rw [e]; unfold updsN; rw [List.foldl_append]; rfl
theorem updsN_append (r : Nat) (l m : List UInt8) : updsN r (l ++ m) = updsN (updsN r l) m := by unfold updsN; rw [List.foldl_append]
def notN (r : Nat) : Nat := 4294967295 ^^^ r
theorem notN_lt (r : Nat) (hr : r < 4294967296) : notN r < 4294967296 := xor_lt32 _ _ (by omega) hr
theorem not_form (r : Nat) (hr : r < 4294967296) : bits BinOp.xor IntKind.u32 IntKind.u32.max (r : Int) = (notN r : Int) := u32_xor_nat 4294967295 r (by omega) hr
/-- The bytes of a list of strings. -/
def catN (zs : List ByteArray) : List UInt8 := zs.flatMap fun s => s.data.toList
theorem catN_snoc (zs : List ByteArray) (k : Nat) (h : k < zs.length) : catN (zs.take (k + 1)) = catN (zs.take k) ++ (zs.getD k ByteArray.empty).data.toList := by
  have e : zs.take (k + 1) = zs.take k ++ [zs.getD k ByteArray.empty] := by
    rw [List.take_succ_eq_append_getElem h, show zs.getD k ByteArray.empty = zs[k] by simp [h]]
  rw [e, catN, List.flatMap_append]; simp [catN]
def addN (r : Nat) (l : List UInt8) : Nat := notN (updsN (notN r) l)
theorem addN_lt (r : Nat) (l : List UInt8) (hr : r < 4294967296) : addN r l < 4294967296 := notN_lt _ (updsN_lt _ _ (notN_lt _ hr))

theorem below_drewN' {B : Nat} {a w : World} (h : Below B a w) (n : Nat) : Below B a (w.drewN n) := ⟨h.os, h.tape, h.output, h.size, h.block⟩
set_option maxHeartbeats 1000000 in
theorem add_any (r : Nat) (a1 : Option Addr) (b off cap : Nat) (zs : List ByteArray) (w : World) (hr : r < 4294967296) (ht : Tabs w) (ha : 0 < zs.length → a1 = some ⟨b, off, none⟩ ∧ b < w.heap.size) (hlen : zs.length ≤ 9223372036854775807)
    (hz : ∀ j, j < zs.length → (zs.getD j ByteArray.empty).size ≤ maxLen)
    (hc : ∀ j, j < zs.length → w.cell? ⟨b, off + j, none⟩ = some (.string (zs.getD j ByteArray.empty))) :
    Calls Tryd.prog 103 #[.int .u32 r, .slice a1 zs.length cap] w fun e w' => e = .returned (.int .u32 (addN r (catN zs))) ∧ Below w.heap.size w w' := by
  have HT := Lib.hid ht
  have HC := Lib.hid hc
  have HZ := Lib.hid hz
  have HA := Lib.hid ha
  obtain ⟨V, hV⟩ : ∃ V, V = addN r (catN zs) := ⟨_, rfl⟩
  rw [← hV]
  have HV := Lib.hid hV
  have hnf := not_form r hr
  have hn0 := notN_lt r hr
  clear ht hc hz ha hV
  go_enter Tryd.func103, Tryd.ntmps103
  go_wp2_with fail
  go_loopw [5, 14] (fun x i wr => ∃ (k q : Nat), k ≤ zs.length ∧ i = .int .i64 k ∧ q < 4294967296 ∧ x = .int .u32 (q : Int) ∧ Hid (q = updsN (notN r) (catN (zs.take k))) ∧ Below w.heap.size w wr) (fun _ i _ => zs.length - (intOf i).toNat)
  case atStart => exact ⟨0, notN r, Nat.zero_le _, rfl, hn0, rfl, rfl, Below.refl _ _⟩
  case round =>
    obtain ⟨k, q0, hk, rfl, hq0, rfl, HQ0, hbw⟩ := hrel
    by_cases hlt : k < zs.length
    · obtain ⟨ha, hbb⟩ := HA.out (by omega)
      subst ha
      have hcell : wr.cell? ⟨b, off + k, none⟩ = some (.string (zs.getD k ByteArray.empty)) := (hbw.cell (p := ⟨b, off + k, none⟩) hbb).trans (HC.out k hlt)
      have hzk := HZ.out k hlt
      have HQ1 := Lib.hid (show updsN (notN r) (catN (zs.take (k + 1))) = updsN q0 (zs.getD k ByteArray.empty).data.toList by rw [catN_snoc zs k hlt, updsN_append, HQ0.out])
      generalize zs.getD k ByteArray.empty = s at *
      unfold maxLen at hzk
      clear HQ0
      go_wp2_with fail
      go_loopw [5, 20] (fun x i wi => ∃ (j q : Nat), j ≤ s.size ∧ i = .int .i64 j ∧ q < 4294967296 ∧ x = .int .u32 (q : Int) ∧ Hid (q = updsN q0 (s.data.toList.take j)) ∧ Below w.heap.size w wi) (fun _ i _ => s.size - (intOf i).toNat)
      case atStart => exact ⟨0, q0, Nat.zero_le _, rfl, hq0, rfl, rfl, hbw⟩
      case round =>
        obtain ⟨j, q, hj, rfl, hq, rfl, HQ, hbi⟩ := hrel
        by_cases hlt2 : j < s.size
        · have HQ2 := Lib.hid (show updN q s[j].toNat = updsN q0 (s.data.toList.take (j + 1)) by rw [updsN_snoc q0 s j hlt2, HQ.out])
          have hcl := s[j].toNat_lt
          obtain ⟨B, hB⟩ : ∃ B : Nat, B = (q % 256) ^^^ s[j].toNat := ⟨_, rfl⟩
          have hB8 : B < 256 := by rw [hB]; exact xor_lt8 _ _ (by omega) hcl
          have hx8 : bits BinOp.xor IntKind.u8 ((q : Int) % 256) (s[j].toNat : Int) = (B : Int) := by
            have h := u8_xor_nat (q % 256) s[j].toNat (by omega) hcl
            rw [hB, ← h]
            rfl
          have HU := Lib.hid (show updN q s[j].toNat = q / 256 ^^^ hiN (B / 16) ^^^ loN (B % 16) by unfold updN; rw [← hB])
          have hT := HT.out.below (hbi.mono (Nat.le_refl _))
          have hh : wr.cell? ⟨0, B / 16, none⟩ = some (.int .u32 (hiN (B / 16) : Int)) := hT.2.1 (B / 16) (by omega)
          have hl : wr.cell? ⟨1, B % 16, none⟩ = some (.int .u32 (loN (B % 16) : Int)) := hT.2.2 (B % 16) (by omega)
          have ha15 : bits BinOp.and IntKind.u8 (B : Int) 15 = ((B % 16 : Nat) : Int) := by rw [u8_and15 _ (by omega) (by omega)]; omega
          have hxx : bits BinOp.xor IntKind.u32 (bits BinOp.xor IntKind.u32 ((q : Int) / 256) (hiN (B / 16) : Int)) (loN (B % 16) : Int) = ((q / 256 ^^^ hiN (B / 16) ^^^ loN (B % 16) : Nat) : Int) := by
            have h1 := u32_xor_nat (q / 256) (hiN (B / 16)) (by omega) (hi_lt _)
            have h2 := u32_xor_nat (q / 256 ^^^ hiN (B / 16)) (loN (B % 16)) (xor_lt32 _ _ (by omega) (hi_lt _)) (lo_lt _)
            rw [← h2, ← h1]
            rfl
          have HXX := Lib.hid hxx
          clear hB hT hxx
          go_wp2_with fail
          go_quiet (fail)
          rw [HXX.out, ← HU.out]
          have hqq := updN_lt q s[j].toNat hq
          clear HXX HU hh hl ha15 hx8
          go_wp2_with fail
          go_roundw
          case rel => exact ⟨j + 1, updN q s[j].toNat, by omega, by go_num, hqq, rfl, HQ2, below_drewN' hbi _⟩
          case measure => simp [intOf]; omega
        · have hjs : s.data.toList.take j = s.data.toList := List.take_of_length_le (by simp; omega)
          rw [hjs, ← HQ1.out] at HQ
          clear hjs
          go_wp2_with fail
          go_roundw
          case rel => exact ⟨k + 1, q, by omega, by go_num, hq, rfl, HQ, hbi⟩
          case measure => simp [intOf]; omega
    · have hkk : zs.take k = zs := List.take_of_length_le (by omega)
      have HQV : Hid ((notN q0 : Int) = (V : Int)) := by
        show (notN q0 : Int) = (V : Int)
        rw [HV.out, HQ0.out, hkk]
        rfl
      have hnq := not_form q0 hq0
      clear hkk
      go_wp2_with fail
      go_ret
      exact ⟨by rw [← HQV.out]; rfl, hbw⟩

theorem of_any (a1 : Option Addr) (b off cap : Nat) (zs : List ByteArray) (w : World) (ht : Tabs w) (ha : 0 < zs.length → a1 = some ⟨b, off, none⟩ ∧ b < w.heap.size) (hlen : zs.length ≤ 9223372036854775807)
    (hz : ∀ j, j < zs.length → (zs.getD j ByteArray.empty).size ≤ maxLen)
    (hc : ∀ j, j < zs.length → w.cell? ⟨b, off + j, none⟩ = some (.string (zs.getD j ByteArray.empty))) :
    Calls Tryd.prog 95 #[.slice a1 zs.length cap] w fun e w' => e = .returned (.int .u32 (addN 0 (catN zs))) ∧ Below w.heap.size w w' := by
  have H := Lib.hid (add_any 0 a1 b off cap zs w (by omega) ht ha hlen hz hc)
  clear hz hc ha ht
  go_enter Tryd.func95, Tryd.ntmps95
  go_wp2_with fail
  refine H.out.mono ?_
  rintro e w1 ⟨rfl, hb⟩
  go_wp2_with fail
  go_ret
  exact ⟨rfl, hb⟩

/-- One string, in a slice that has just been made. -/
theorem of_one (s : ByteArray) (w : World) (N : Nat) (hN : N = w.heap.size) (ht : Tabs w) (hs : s.size ≤ maxLen) :
    Calls Tryd.prog 95 #[.slice (some ⟨N, 0, none⟩) 1 1] (w.alloc (.cells #[.string s] 9)) fun e w' => e = .returned (.int .u32 (addN 0 s.data.toList)) ∧ Below w.heap.size w w' := by
  subst hN
  have h0 := (Below.refl w.heap.size w).alloc (Nat.le_refl _) (.cells #[.string s] 9)
  refine (of_any _ w.heap.size 0 1 [s] (w.alloc (.cells #[.string s] 9)) (ht.below h0) (fun _ => ⟨rfl, by simp⟩) (by simp) ?_ ?_).mono ?_
  · intro j hj
    match j, hj with
    | 0, _ => exact hs
  · intro j hj
    match j, hj with
    | 0, _ => simp [World.cell?_alloc_at]
  · rintro e w' ⟨he, hb⟩
    refine ⟨?_, h0.trans (hb.mono (by simp))⟩
    rw [he]
    simp [catN]
theorem add_one (r : Nat) (s : ByteArray) (w : World) (N : Nat) (hN : N = w.heap.size) (hr : r < 4294967296) (ht : Tabs w) (hs : s.size ≤ maxLen) :
    Calls Tryd.prog 103 #[.int .u32 r, .slice (some ⟨N, 0, none⟩) 1 1] (w.alloc (.cells #[.string s] 9)) fun e w' => e = .returned (.int .u32 (addN r s.data.toList)) ∧ Below w.heap.size w w' := by
  subst hN
  have h0 := (Below.refl w.heap.size w).alloc (Nat.le_refl _) (.cells #[.string s] 9)
  refine (add_any r _ w.heap.size 0 1 [s] (w.alloc (.cells #[.string s] 9)) hr (ht.below h0) (fun _ => ⟨rfl, by simp⟩) (by simp) ?_ ?_).mono ?_
  · intro j hj
    match j, hj with
    | 0, _ => exact hs
  · intro j hj
    match j, hj with
    | 0, _ => simp [World.cell?_alloc_at]
  · rintro e w' ⟨he, hb⟩
    refine ⟨?_, h0.trans (hb.mono (by simp))⟩
    rw [he]
    simp [catN]
theorem of_none (p : Option Addr) (cap : Nat) (w : World) (ht : Tabs w) :
    Calls Tryd.prog 95 #[.slice p 0 cap] w fun e w' => e = .returned (.int .u32 0) ∧ Below w.heap.size w w' :=
  of_any p 0 0 cap [] w ht (fun h => absurd h (by simp)) (by simp) (fun j hj => absurd hj (by simp)) (fun j hj => absurd hj (by simp))

end Go.Proofs.YtpjbkeheemhlnaaDoor
