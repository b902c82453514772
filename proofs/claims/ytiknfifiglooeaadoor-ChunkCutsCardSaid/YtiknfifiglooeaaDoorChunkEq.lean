/- slices.Equal at two rows of sums. No conditions beyond those in each statement. -/
import Derived.Test.YtiknfifiglooeaaDoorChunkRc
namespace Go.Proofs.YtiknfifiglooeaaDoor
open Go Go.RowKit Go.Proofs.Tryd
set_option linter.unusedVariables false
set_option maxRecDepth 100000

theorem SmR.at {w : World} {a : Option Addr} {n c : Nat} {ss : List Int} (h : SmR w (.slice a n c) ss) : ss.length = n ∧ n ≤ 1000000 ∧ ∀ k, k < n → ∃ g, a = some ⟨g, 0, none⟩ ∧ w.cell? ⟨g, k, none⟩ = some (.int .u32 (ss.getD k 0)) := by
  obtain ⟨a', c', hv, hl, hc, _⟩ := h
  injection hv with h1 h2 h3
  subst h1 h2
  refine ⟨rfl, hl, fun k hk => ?_⟩
  obtain ⟨g, e, _, hcell⟩ := hc.resolve_left (by omega)
  exact ⟨g, e, hcell k hk⟩
set_option maxHeartbeats 4000000 in
theorem cseq_any (u v : Value) (xs ys : List Int) (w : World) (hx : SmR w u xs) (hy : SmR w v ys) :
    Calls Tryd.prog 73 #[u, v] w fun e w' => e = .returned (.bool (decide (xs = ys))) ∧ Below w.heap.size w w' := by
  obtain ⟨a, c, rfl, hxl, _⟩ := id hx
  obtain ⟨b, d, rfl, hyl, _⟩ := id hy
  have HX := Lib.hid (fun (W : World) (h : Below w.heap.size w W) => (hx.below h).at)
  have HY := Lib.hid (fun (W : World) (h : Below w.heap.size w W) => (hy.below h).at)
  clear hx hy
  go_enter Tryd.func73, Tryd.ntmps73
  go_upto_region 1 with fail
  by_cases hl : xs.length = ys.length
  case neg =>
    have HV : Hid (decide (xs = ys) = false) := by show _ = _; exact decide_eq_false (fun e => hl (by rw [e]))
    have hl' : ((xs.length : Int) == (ys.length : Int)) = false := by simp; omega
    have hl'' : ((xs.length : Int) != (ys.length : Int)) = true := by simp; omega
    go_wp2_with fail
    go_ret
    exact ⟨by rw [HV.out]; rfl, Below.refl _ _⟩
  obtain ⟨n, hn⟩ : ∃ n, n = xs.length := ⟨_, rfl⟩
  rw [← hl]
  rw [← hl] at HY hyl
  rw [← hn] at HX HY hxl ⊢
  have HL := Lib.hid hl
  have HN := Lib.hid hn
  clear hl hn
  go_wp2_with fail
  go_loopw [13] (fun z wr => ∃ k : Nat, k ≤ n ∧ z = .int .i64 (k : Int) ∧ xs.take k = ys.take k ∧ Below w.heap.size w wr) (fun z _ => n - (intOf z).toNat)
  case atStart => exact ⟨0, Nat.zero_le _, rfl, rfl, Below.refl _ _⟩
  case round =>
    obtain ⟨k, hk, rfl, hxy, Bk⟩ := hrel
    by_cases hlt : k < n
    · have hlt' : (k : Int) < (n : Int) := by omega
      have hk0 : (0 : Int) ≤ (k : Int) := by omega
      obtain ⟨g1, rfl, e1⟩ := (HX.out wr Bk).2.2 k hlt
      obtain ⟨g2, rfl, e2⟩ := (HY.out wr Bk).2.2 k hlt
      obtain ⟨x, hx⟩ : ∃ x, xs.getD k 0 = x := ⟨_, rfl⟩
      obtain ⟨y, hy⟩ : ∃ y, ys.getD k 0 = y := ⟨_, rfl⟩
      rw [hx] at e1
      rw [hy] at e2
      have HGX := Lib.hid hx
      have HGY := Lib.hid hy
      have HXY := Lib.hid hxy
      have HBK := Lib.hid Bk
      clear hx hy hxy Bk
      have hxn : xs[k]? = some x := by have := HN.out; have := HGX.out; rw [List.getD_eq_getElem?_getD, List.getElem?_eq_getElem (by omega)] at this; rw [List.getElem?_eq_getElem (by omega)]; exact congrArg some this
      have hyn : ys[k]? = some y := by have := HN.out; have := HL.out; have := HGY.out; rw [List.getD_eq_getElem?_getD, List.getElem?_eq_getElem (by omega)] at this; rw [List.getElem?_eq_getElem (by omega)]; exact congrArg some this
      have HXN := Lib.hid hxn
      have HYN := Lib.hid hyn
      clear hxn hyn
      by_cases hq : x = y
      · subst hq
        go_wp2_with fail
        go_region_held3 (fun w' => w'.cell? ⟨g1, k, none⟩ = some (.int .u32 x) ∧ w'.cell? ⟨g2, k, none⟩ = some (.int .u32 x)) (first | (with_reducible assumption) | (refine ⟨?_, ?_⟩ <;> with_reducible assumption) | go_keep) (fail)
        all_goals
          go_wp2_with fail
          go_roundw
          case rel => exact ⟨k + 1, by omega, by go_num, by rw [List.take_add_one, List.take_add_one, HXN.out, HYN.out, HXY.out], HBK.out.drew⟩
          case measure => simp [intOf]; omega
      · have hq' : (x == y) = false := by simp [hq]
        have hq'' : (x != y) = true := by simp [hq]
        go_wp2_with fail
        have HV : Hid (decide (xs = ys) = false) := by
          show _ = _
          refine decide_eq_false (fun e => hq ?_)
          have h1 := HXN.out
          rw [e, HYN.out] at h1
          exact (Option.some.inj h1).symm
        go_region_held3 (fun w' => w'.cell? ⟨g1, k, none⟩ = some (.int .u32 x) ∧ w'.cell? ⟨g2, k, none⟩ = some (.int .u32 y)) (first | (with_reducible assumption) | (refine ⟨?_, ?_⟩ <;> with_reducible assumption) | go_keep) (fail)
        all_goals
          go_wp2_with fail
          go_ret
          exact ⟨by rw [HV.out]; rfl, HBK.out.drew⟩
    · obtain rfl : k = n := by omega
      have HV : Hid (decide (xs = ys) = true) := by
        show _ = _
        refine decide_eq_true ?_
        have h1 : xs.take k = xs := by rw [HN.out]; exact List.take_length
        have h2 : ys.take k = ys := by rw [HN.out, HL.out]; exact List.take_length
        rw [← h1, ← h2]; exact hxy
      clear hlt hxy
      go_wp2_with fail
      go_ret
      exact ⟨by rw [HV.out]; rfl, Bk⟩
end Go.Proofs.YtiknfifiglooeaaDoor
