/- The order of watches: cmp.Compare, cmp.Or, order. No conditions beyond those in each statement. -/
import Derived.Test.YtbbdokfankgllaaGreatDoorRowK
import Derived.Test.YtbbdokfankgllaaGreatDoorInvAll
import Derived.Lib.Bytealg
namespace Go.Proofs.YtbbdokfankgllaaGreatDoor
open Go.RowKit
set_option linter.unusedVariables false
set_option maxRecDepth 100000

/-- A watch. -/
structure Wa where
  ses : Int
  path : ByteArray
  kids : Bool
  once : Bool
def waOne (a : Wa) : List Value := [.int .i64 a.ses, .string a.path, .bool a.kids, .bool a.once]
def waV (a : Wa) : Value := .agg #[.int .i64 a.ses, .string a.path, .bool a.kids, .bool a.once]
theorem waOne_len (a : Wa) : (waOne a).length = 4 := rfl
theorem waOne_one (a : Wa) (v : Value) (h : v ∈ waOne a) : v.oneCell' = true := by
  simp [waOne] at h
  rcases h with rfl | rfl | rfl | rfl <;> rfl
def cmpZ (x y : Int) : Int := if x < y then -1 else if y < x then 1 else 0
def cmpT (x y : ByteArray) : Int := if Op.bytesLess x.toList y.toList = true then -1 else if (x.toList == y.toList) = true then 0 else 1
def cmpB (x y : Bool) : Int := if x = y then 0 else if y = true then -1 else 1
def orF : List Int → Int
  | [] => 0
  | z :: zs => if z = 0 then orF zs else z
def orderF (a b : Wa) : Int := orF [cmpZ a.ses b.ses, cmpT a.path b.path, cmpB a.kids b.kids, cmpB a.once b.once]
theorem cnan_int (x : Int) (w : World) : Calls Tryz.prog 86 #[.int .i64 x] w fun e w' => e = .returned (.bool false) ∧ w' = w := by
  go_enter Tryz.func86, Tryz.ntmps86
  go_wp2_with fail
  go_ret
  exact ⟨by simp, rfl⟩
theorem cnan_str (x : ByteArray) (w : World) : Calls Tryz.prog 87 #[.string x] w fun e w' => e = .returned (.bool false) ∧ w' = w := by
  go_enter Tryz.func87, Tryz.ntmps87
  go_wp2_with fail
  go_ret
  exact ⟨by simp, rfl⟩
theorem cmpint_any (x y : Int) (w : World) : Calls Tryz.prog 68 #[.int .i64 x, .int .i64 y] w fun e w' => e = .returned (.int .i64 (cmpZ x y)) ∧ w' = w := by
  have H1 := Lib.hid (cnan_int x w)
  have H2 := Lib.hid (cnan_int y w)
  by_cases h1 : x < y
  · have e1 : decide (x < y) = true := by simpa using h1
    have HR : Hid (cmpZ x y = -1) := Lib.hid (by unfold cmpZ; rw [if_pos h1])
    clear h1
    go_enter Tryz.func68, Tryz.ntmps68
    go_wp2_with fail
    refine H1.out.mono ?_
    rintro e w1 ⟨rfl, rfl⟩
    go_wp2_with fail
    refine H2.out.mono ?_
    rintro e w2 ⟨rfl, rfl⟩
    go_wp2_with fail
    go_ret
    rw [HR.out]; exact ⟨rfl, rfl⟩
  · have e1 : decide (x < y) = false := by simpa using h1
    by_cases h2 : y < x
    · have e2 : decide (y < x) = true := by simpa using h2
      have HR : Hid (cmpZ x y = 1) := Lib.hid (by unfold cmpZ; rw [if_neg h1, if_pos h2])
      clear h1 h2
      go_enter Tryz.func68, Tryz.ntmps68
      go_wp2_with fail
      refine H1.out.mono ?_
      rintro e w1 ⟨rfl, rfl⟩
      go_wp2_with fail
      refine H2.out.mono ?_
      rintro e w2 ⟨rfl, rfl⟩
      go_wp2_with fail
      go_ret
      rw [HR.out]; exact ⟨rfl, rfl⟩
    · have e2 : decide (y < x) = false := by simpa using h2
      have HR : Hid (cmpZ x y = 0) := Lib.hid (by unfold cmpZ; rw [if_neg h1, if_neg h2])
      clear h1 h2
      go_enter Tryz.func68, Tryz.ntmps68
      go_wp2_with fail
      refine H1.out.mono ?_
      rintro e w1 ⟨rfl, rfl⟩
      go_wp2_with fail
      refine H2.out.mono ?_
      rintro e w2 ⟨rfl, rfl⟩
      go_wp2_with fail
      go_ret
      rw [HR.out]; exact ⟨rfl, rfl⟩
theorem cmpstr_any (x y : ByteArray) (w : World) : Calls Tryz.prog 69 #[.string x, .string y] w fun e w' => e = .returned (.int .i64 (cmpT x y)) ∧ w' = w := by
  have H1 := Lib.hid (cnan_str x w)
  have H2 := Lib.hid (cnan_str y w)
  obtain ⟨p, hp⟩ : ∃ p, p = Op.bytesLess x.toList y.toList := ⟨_, rfl⟩
  obtain ⟨q, hq⟩ : ∃ q, q = (x.toList == y.toList) := ⟨_, rfl⟩
  have HR : Hid (cmpT x y = if p = true then -1 else if q = true then 0 else 1) := Lib.hid (by rw [hp, hq]; rfl)
  have e1 := hp.symm
  have e2 := hq.symm
  clear hp hq
  cases p
  · cases q
    · go_enter Tryz.func69, Tryz.ntmps69
      go_wp2_with fail
      refine H1.out.mono ?_
      rintro e w1 ⟨rfl, rfl⟩
      go_wp2_with fail
      refine H2.out.mono ?_
      rintro e w2 ⟨rfl, rfl⟩
      have e3 : (!x.toList == y.toList) = true := by rw [e2]; rfl
      go_wp2_with fail
      go_ret
      rw [HR.out]; exact ⟨rfl, rfl⟩
    · go_enter Tryz.func69, Tryz.ntmps69
      go_wp2_with fail
      refine H1.out.mono ?_
      rintro e w1 ⟨rfl, rfl⟩
      go_wp2_with fail
      refine H2.out.mono ?_
      rintro e w2 ⟨rfl, rfl⟩
      have e3 : (!x.toList == y.toList) = false := by rw [e2]; rfl
      go_wp2_with fail
      go_ret
      rw [HR.out]; exact ⟨rfl, rfl⟩
  · go_enter Tryz.func69, Tryz.ntmps69
    go_wp2_with fail
    refine H1.out.mono ?_
    rintro e w1 ⟨rfl, rfl⟩
    go_wp2_with fail
    refine H2.out.mono ?_
    rintro e w2 ⟨rfl, rfl⟩
    go_wp2_with fail
    go_ret
    rw [HR.out]; exact ⟨rfl, rfl⟩
theorem ffirst_any (x y : Bool) (w : World) : Calls Tryz.prog 70 #[.bool x, .bool y] w fun e w' => e = .returned (.int .i64 (cmpB x y)) ∧ w' = w := by
  cases x <;> cases y
  all_goals
    go_enter Tryz.func70, Tryz.ntmps70
    go_wp2_with fail
    go_ret
    exact ⟨rfl, rfl⟩
theorem orF_step (zs : List Int) (j : Nat) (h : j < zs.length) : orF (zs.drop j) = if zs.getD j 0 = 0 then orF (zs.drop (j + 1)) else zs.getD j 0 := by
  rw [List.drop_eq_getElem_cons h, orF, List.getD_eq_getElem?_getD, List.getElem?_eq_getElem h]; rfl
set_option maxHeartbeats 4000000 in
theorem cor_any (zs : List Int) (g cap : Nat) (w : World) (hl : zs.length ≤ 1000) (hc : ∀ j, j < zs.length → w.cell? ⟨g, j, none⟩ = some (.int .i64 (zs.getD j 0))) :
    Calls Tryz.prog 67 #[.slice (some ⟨g, 0, none⟩) zs.length cap] w fun e w' => e = .returned (.int .i64 (orF zs)) ∧ w' = w := by
  have HC := Lib.hid hc
  clear hc
  go_enter Tryz.func67, Tryz.ntmps67
  go_wp2_with fail
  go_loopw [8] (fun iv wr => ∃ j : Nat, j ≤ zs.length ∧ iv = .int .i64 j ∧ Hid (orF zs = orF (zs.drop j)) ∧ wr = w) (fun iv _ => zs.length - (intOf iv).toNat)
  case atStart => exact ⟨0, by omega, rfl, Lib.hid rfl, rfl⟩
  case round =>
    obtain ⟨j, hj, rfl, hf, hw⟩ := hrel
    subst hw
    by_cases hlt : j < zs.length
    · have hlt2 : decide ((j : Int) < (zs.length : Int)) = true := by simp; omega
      have hcj := HC.out j hlt
      have hst := orF_step zs j hlt
      have hj0 : (0 : Int) ≤ (j : Int) := by omega
      have hji : (j : Int) < (zs.length : Int) := by omega
      have t2 : IntKind.i64.wrap ((j : Int) + 1) = (j : Int) + 1 := IntWalk.i64_in _ (by omega)
      generalize zs.getD j 0 = z at hcj hst
      by_cases hz : z = 0
      · subst hz
        have HF : Hid (orF zs = orF (zs.drop (j + 1))) := Lib.hid (by rw [hf.out, hst, if_pos rfl])
        clear hst hf
        go_wp2_with fail
        go_roundw
        case rel => exact ⟨j + 1, by omega, by go_num, HF, trivial⟩
        case measure => simp [intOf]; omega
      · have e1 : (z == 0) = false := by simpa using hz
        have HF : Hid (orF zs = z) := Lib.hid (by rw [hf.out, hst, if_neg hz])
        clear hst hf hz
        go_wp2_with fail
        go_ret
        rw [HF.out]; exact ⟨rfl, rfl⟩
    · obtain rfl : j = zs.length := by omega
      have hlt2 : decide ((zs.length : Int) < (zs.length : Int)) = false := by simp
      go_wp2_with fail
      go_ret
      rw [hf.out, List.drop_length]; exact ⟨rfl, rfl⟩
end Go.Proofs.YtbbdokfankgllaaGreatDoor
