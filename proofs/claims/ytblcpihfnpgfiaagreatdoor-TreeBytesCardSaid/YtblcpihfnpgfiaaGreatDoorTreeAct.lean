/- An act of the law: its path. No conditions beyond those in each statement. -/
import Derived.Test.YtblcpihfnpgfiaaGreatDoorTreeModC
import Derived.Test.YtblcpihfnpgfiaaGreatDoorPathAll
namespace Go.Proofs.YtblcpihfnpgfiaaGreatDoor
open Go.RowKit Go.Maps Go.Sort
set_option linter.unusedVariables false
set_option linter.unusedSimpArgs false
set_option maxRecDepth 100000

/-- An act that came in: its numbers, its parts, its texts. -/
structure Ac where
  k : Int
  ver : Int
  owner : Int
  path : List Int
  raw : ByteArray
  data : ByteArray
  serial : Bool
def acV (a : Ac) (pv : Value) : Value := .agg #[.int .i64 a.k, .int .i64 a.ver, .int .i64 a.owner, pv, .string a.raw, .string a.data, .bool a.serial]
/-- The path of an act. -/
def acS (a : Ac) : List UInt8 := if a.raw.data.toList = [] then madeL (wsOf a.path) else a.raw.data.toList
set_option maxHeartbeats 4000000 in
theorem acts_any (a : Ac) (pv : Value) (w : World) (h : IntsR w pv a.path) (hl : a.path.length ≤ 1000) :
    Calls Tryz.prog 12 #[.agg #[.int .i64 a.k, .int .i64 a.ver, .int .i64 a.owner, pv, .string a.raw, .string a.data, .bool a.serial]] w fun e w' => e = .returned (.string (bs (acS a))) ∧ Below w.heap.size w w' := by
  have hi := h.1
  obtain ⟨xa, xc, hva, _⟩ := hi
  have b1 := (Below.refl w.heap.size w).alloc (Nat.le_refl _) (.cells #[.int .i64 a.k, .int .i64 a.ver, .int .i64 a.owner, pv, .string a.raw, .string a.data, .bool a.serial] 31)
  have HMA := Lib.hid (fun (W : World) (hb : Below w.heap.size w W) => made_any pv a.path W (h.1.below hb) hl h.2)
  subst hva
  clear h
  by_cases hr : a.raw.data.toList = []
  · have e1 : a.raw.toList.isEmpty = true := by rw [Lib.toList_data, hr]; rfl
    have e2 : (a.raw.toList == []) = true := by rw [Lib.toList_data, hr]; rfl
    have HS : Hid (acS a = madeL (wsOf a.path)) := Lib.hid (by unfold acS; rw [if_pos hr])
    clear hr
    go_enter Tryz.func12, Tryz.ntmps12
    go_wp2_with fail
    refine (HMA.out _ b1).mono ?_
    rintro e w1 ⟨rfl, b2⟩
    go_wp2_with fail
    go_ret
    rw [HS.out]
    exact ⟨rfl, b1.trans (b2.mono b1.size)⟩
  · have e1 : a.raw.toList.isEmpty = false := by rw [Lib.toList_data]; cases h : a.raw.data.toList with
      | nil => exact absurd h hr
      | cons c l => rfl
    have e2 : (a.raw.toList == []) = false := by rw [Lib.toList_data]; cases h : a.raw.data.toList with
      | nil => exact absurd h hr
      | cons c l => rfl
    have HS : Hid (bs (acS a) = a.raw) := Lib.hid (by unfold acS bs; rw [if_neg hr])
    clear hr
    go_enter Tryz.func12, Tryz.ntmps12
    go_wp2_with fail
    go_ret
    rw [HS.out]
    exact ⟨rfl, b1⟩
end Go.Proofs.YtblcpihfnpgfiaaGreatDoor
