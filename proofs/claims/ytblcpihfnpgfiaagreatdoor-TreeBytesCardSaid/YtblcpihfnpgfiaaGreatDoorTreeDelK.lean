/- Delete that is refused. No conditions beyond those in each statement. -/
import Derived.Test.YtblcpihfnpgfiaaGreatDoorTreeKids
namespace Go.Proofs.YtblcpihfnpgfiaaGreatDoor
open Go.RowKit Go.Maps Go.Sort
set_option linter.unusedVariables false
set_option linter.unusedSimpArgs false
set_option maxRecDepth 100000

set_option maxHeartbeats 4000000 in
theorem delete_root (tb mb k c : Nat) (T : List UInt8 → Option Nd) (v : Int) (w : World) (h : TrW w tb mb k c T) (hce : chkN T [47] v = 0) :
    Calls Tryz.prog 34 #[.pointer (some ⟨tb, 0, none⟩), .string (bs [47]), .int .i64 v] w fun e w' => e = .returned (.int .i64 1) ∧ Below w.heap.size w w' := by
  have HC := Lib.hid (chk_any tb mb k c T [47] v w h (by decide))
  rw [hce] at HC
  have e1 : ((bs [47]).toList == [47]) = true := by rw [Lib.toList_data, bs_list]; decide
  clear hce h
  go_enter Tryz.func34, Tryz.ntmps34
  go_wp2_with fail
  refine HC.out.mono ?_
  rintro e w1 ⟨rfl, b1⟩
  go_wp2_with fail
  go_ret
  exact ⟨rfl, b1⟩
set_option maxHeartbeats 4000000 in
theorem delete_kids (tb mb k c : Nat) (T : List UInt8 → Option Nd) (z : List UInt8) (v : Int) (w : World) (h : TrW w tb mb k c T) (hc1 : c ≤ 1000) (hz : z.length ≤ 1000) (hK : KeysOk T) (hn : ∃ x n, T x = some n ∧ upP x = z) (nd : Nd) (hck : checkL z = true) (hT : T z = some nd) (hv : chkN T z v = 0) (hzr : z ≠ [47]) :
    Calls Tryz.prog 34 #[.pointer (some ⟨tb, 0, none⟩), .string (bs z), .int .i64 v] w fun e w' => e = .returned (.int .i64 13) ∧ Below w.heap.size w w' := by
  have HC := Lib.hid (chk_any tb mb k c T z v w h (by omega))
  rw [hv] at HC
  have HKN := Lib.hid (fun (W : World) (hb : Below w.heap.size w W) => kids_any tb mb k c T z nd W (h.below hb) hc1 hz hK hck hT)
  have e1 : ((bs z).toList == [47]) = false := by rw [Lib.toList_data, bs_list]; simpa using hzr
  have HN := Lib.hid hn
  clear hT hv hn hK hck hzr h
  go_enter Tryz.func34, Tryz.ntmps34
  go_wp2_with fail
  refine HC.out.mono ?_
  rintro e w1 ⟨rfl, b1⟩
  go_wp2_with fail
  refine (HKN.out _ b1).mono ?_
  rintro e w2 ⟨u, ss, rfl, hrow, hnd, hmem, b2⟩
  replace b2 := b1.trans (b2.mono b1.size)
  have hpos : 0 < ss.length := by
    obtain ⟨x, n, h1, h2⟩ := HN.out
    exact List.length_pos_of_mem ((hmem x).2 ⟨n, h1, h2⟩)
  obtain ⟨g, cap, rfl, _⟩ := hrow.form hpos
  have d1 : decide ((0 : Int) < (ss.length : Int)) = true := by simp; omega
  clear hrow hmem hnd
  go_wp2_with fail
  go_ret
  exact ⟨rfl, b2⟩
end Go.Proofs.YtblcpihfnpgfiaaGreatDoor
