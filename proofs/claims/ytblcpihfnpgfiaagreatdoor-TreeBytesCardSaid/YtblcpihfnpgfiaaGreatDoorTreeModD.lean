/- The law's model: Delete. No conditions beyond those in each statement. -/
import Derived.Test.YtblcpihfnpgfiaaGreatDoorTreeModC
namespace Go.Proofs.YtblcpihfnpgfiaaGreatDoor
open Go.RowKit Go.Maps Go.Sort
set_option linter.unusedVariables false
set_option linter.unusedSimpArgs false
set_option maxRecDepth 100000

theorem kids_rep {T : List UInt8 → Option Nd} {L : List Me} (h : Rep T L) {s : List UInt8} (hs : s ≠ []) : (∃ x n, T x = some n ∧ upP x = s) ↔ kidsL L s ≠ [] := by
  have hup : upP [47] = [] := by decide
  constructor
  · rintro ⟨x, n, h1, h2⟩ h3
    have hm := (h.mem x n).1 h1
    have : (x, n) ∈ L.filter (isKid s) := List.mem_filter.2 ⟨hm, by
      have hx : x ≠ [47] := by rintro rfl; rw [hup] at h2; exact hs h2.symm
      simp [isKid, h2, hx]⟩
    unfold kidsL at h3
    rw [List.map_eq_nil_iff] at h3
    rw [h3] at this; cases this
  · intro h3
    unfold kidsL at h3
    obtain ⟨e, he⟩ := List.exists_mem_of_ne_nil (L.filter (isKid s)) (fun e => h3 (by rw [e]; rfl))
    obtain ⟨he1, he2⟩ := List.mem_filter.1 he
    simp [isKid] at he2
    exact ⟨e.1, e.2, (h.mem _ _).2 he1, he2.1⟩
set_option maxHeartbeats 4000000 in
theorem mdelete_err (base mp g cap : Nat) (L : List Me) (T : List UInt8 → Option Nd) (s : List UInt8) (v ce : Int) (w : World) (h : ModL w base mp g cap L) (hR : Rep T L) (hL : L.length ≤ 1000) (hce : chkN T s v = ce) (h0 : ce ≠ 0) :
    Calls Tryz.prog 35 #[.pointer (some ⟨mp, 0, none⟩), .string (bs s), .int .i64 v] w fun e w' => e = .returned (.int .i64 ce) ∧ Below w.heap.size w w' := by
  have HC := Lib.hid (mchk_any base mp g cap L T s v w h hR hL)
  rw [hce] at HC
  have e1 : (ce != 0) = true := by simpa using h0
  have e2 : (ce == 0) = false := by simpa using h0
  clear hce h0 h hR
  go_enter Tryz.func35, Tryz.ntmps35
  go_wp2_with fail
  refine HC.out.mono ?_
  rintro e w1 ⟨rfl, b1⟩
  go_wp2_with fail
  go_ret
  exact ⟨rfl, b1⟩
set_option maxHeartbeats 4000000 in
theorem mdelete_root (base mp g cap : Nat) (L : List Me) (T : List UInt8 → Option Nd) (v : Int) (w : World) (h : ModL w base mp g cap L) (hR : Rep T L) (hL : L.length ≤ 1000) (hce : chkN T [47] v = 0) :
    Calls Tryz.prog 35 #[.pointer (some ⟨mp, 0, none⟩), .string (bs [47]), .int .i64 v] w fun e w' => e = .returned (.int .i64 1) ∧ Below w.heap.size w w' := by
  have HC := Lib.hid (mchk_any base mp g cap L T [47] v w h hR hL)
  rw [hce] at HC
  have e1 : ((bs [47]).toList == [47]) = true := by rw [Lib.toList_data, bs_list]; decide
  clear hce h hR
  go_enter Tryz.func35, Tryz.ntmps35
  go_wp2_with fail
  refine HC.out.mono ?_
  rintro e w1 ⟨rfl, b1⟩
  go_wp2_with fail
  go_ret
  exact ⟨rfl, b1⟩
set_option maxHeartbeats 4000000 in
theorem mdelete_kids (base mp g cap : Nat) (L : List Me) (T : List UInt8 → Option Nd) (s : List UInt8) (v : Int) (w : World) (h : ModL w base mp g cap L) (hR : Rep T L) (hL : L.length ≤ 1000) (hK : ∀ e ∈ L, checkL e.1 = true) (hce : chkN T s v = 0) (hsr : s ≠ [47]) (hk : kidsL L s ≠ []) :
    Calls Tryz.prog 35 #[.pointer (some ⟨mp, 0, none⟩), .string (bs s), .int .i64 v] w fun e w' => e = .returned (.int .i64 13) ∧ Below w.heap.size w w' := by
  have HC := Lib.hid (mchk_any base mp g cap L T s v w h hR hL)
  rw [hce] at HC
  have HKN := Lib.hid (fun (W : World) (hb : Below w.heap.size w W) => mkids_any base mp g cap L s W (h.below hb) hL hK)
  have e1 : ((bs s).toList == [47]) = false := by rw [Lib.toList_data, bs_list]; simpa using hsr
  have hpos : 0 < (kidsL L s).length := List.length_pos_iff.2 hk
  have HPOS := Lib.hid hpos
  clear hce h hR hk hpos
  go_enter Tryz.func35, Tryz.ntmps35
  go_wp2_with fail
  refine HC.out.mono ?_
  rintro e w1 ⟨rfl, b1⟩
  go_wp2_with fail
  refine (HKN.out _ b1).mono ?_
  rintro e w2 ⟨u, rfl, hrow, b2⟩
  replace b2 := b1.trans (b2.mono b1.size)
  obtain ⟨g2, cap2, rfl, _⟩ := hrow.form HPOS.out
  have d1 : decide ((0 : Int) < ((kidsL L s).length : Int)) = true := by have := HPOS.out; simp; omega
  clear hrow
  go_wp2_with fail
  go_ret
  exact ⟨rfl, b2⟩
end Go.Proofs.YtblcpihfnpgfiaaGreatDoor
