/- Delete of a node without kids. No conditions beyond those in each statement. -/
import Derived.Test.YtblcpihfnpgfiaaGreatDoorTreeSet
import Derived.Test.YtblcpihfnpgfiaaGreatDoorTreeQ
import Derived.Sort.MapsRangeIn
import Derived.Maps.RangeWalk
namespace Go.Proofs.YtblcpihfnpgfiaaGreatDoor
open Go.RowKit Go.Maps
set_option linter.unusedVariables false
set_option linter.unusedSimpArgs false
set_option maxRecDepth 100000

/-- Every node's path is a path. -/
def KeysOk (T : List UInt8 → Option Nd) : Prop := ∀ x n, T x = some n → checkL x = true
theorem KeysOk.upd {T : List UInt8 → Option Nd} (h : KeysOk T) {z : List UInt8} (hz : checkL z = true) (o : Option Nd) : KeysOk (updN T z o) := by
  intro x n hx
  by_cases e : x = z
  · rw [e]; exact hz
  · rw [updN_other e] at hx; exact h x n hx
theorem KeysOk.root : KeysOk rootT := KeysOk.upd (fun x n h => by cases h) root_check _
theorem ndR_any {v : Value} {y : DataW Unit × List MemPlace} (h : ndR v = some y) : ∃ n, v = ndV n := by
  unfold ndR at h
  split at h
  · rename_i xs
    unfold ndL at h
    split at h
    · rename_i d a b c e f g hx
      refine ⟨⟨d, a, b, c, e, f, g⟩, ?_⟩
      show Value.agg xs = Value.agg _
      congr 1
      rw [← Array.toArray_toList (xs := xs), hx]
    · cases h
  · cases h
theorem keyS_inv {key : Value} {kl : Lit} (h : keyOf Tryz.prog 9 key = some kl) : ∃ l : List UInt8, key = .string (bs l) ∧ kl = .string l ∧ l.length ≤ maxLen := by
  rw [Go.keyOf_string und_str9] at h
  cases key <;> simp [mapKey] at h
  rename_i s
  obtain ⟨hs, rfl⟩ := h
  exact ⟨s.data.toList, by cases s; simp [bs], rfl, by rw [Lib.size_eq] at hs; exact hs⟩
theorem drewN_below (w : World) (n : Nat) : Below w.heap.size w (w.drewN n) := ⟨rfl, rfl, rfl, Nat.le_refl _, fun _ _ => rfl⟩
set_option maxHeartbeats 4000000 in
theorem kids_none (tb mb k c : Nat) (T : List UInt8 → Option Nd) (z : List UInt8) (w : World) (h : TrW w tb mb k c T) (hz : z.length ≤ 1000) (hK : KeysOk T) (hn : ∀ x n, T x = some n → upP x ≠ z) (nd : Nd) (hck : checkL z = true) (hT : T z = some nd) :
    Calls Tryz.prog 13 #[.pointer (some ⟨tb, 0, none⟩), .string (bs z)] w fun e w' => e = .returned (.tuple #[.slice none 0 0, .int .i64 0]) ∧ Below w.heap.size w w' := by
  have HG := Lib.hid (get_any tb mb k c T z w h (by omega))
  have hG : getN T z = (nd, 0) := by unfold getN; rw [hck, hT]; rfl
  rw [hG] at HG
  unfold ndV at HG
  have HH := Lib.hid h
  clear hG h hck hT
  go_enter Tryz.func13, Tryz.ntmps13
  go_wp2_with fail
  refine HG.out.mono ?_
  rintro e w1 ⟨rfl, b1⟩
  have b2 := b1.alloc b1.size (.cells (ndC nd) 40)
  unfold ndC at b2
  go_upto_region 5 with fail
  obtain ⟨w2, hw2⟩ : ∃ w2, w2 = w1.alloc (.cells #[.string nd.data, .int .i64 nd.ver, .int .i64 nd.below, .int .i64 nd.owner, .int .i64 nd.made, .int .i64 nd.put, .int .i64 nd.serial] 40) := ⟨_, rfl⟩
  rw [← hw2] at b2 ⊢
  have H2 := HH.out.below b2
  have HA := Lib.hid (all_any tb mb w2 H2.cell)
  obtain ⟨D, ho, hc, hD⟩ := H2.map
  clear hw2 b1 H2
  go_wp2_with fail
  refine HA.out.mono ?_
  rintro e w3 ⟨rfl, rfl⟩
  go_wp2_with (first
    | (at_range; refine wpList_range_own _ rfl _ 68 rfl 9 40 lawS und_map9 ndR mb k D rfl ho ?_; intro w0 hrg0 hg0 hs0; go_frame)
    | go_in)
  go_loopw [8, 9, 10, 11] (fun lv _ _ _ wr => ∃ (left : Lit → Bool) (cnt : Nat), lv = .slice none 0 0 ∧ wr.ranges Tryz.prog 9 ndR mb w3.heap.size k D left cnt ∧ w3.grownBy wr none) (fun _ _ _ _ wr => wr.rangeLeft mb w3.heap.size)
  case atStart => exact ⟨_, _, rfl, hrg0, hg0⟩
  case round =>
    obtain ⟨left, cnt, rfl, hrg, hgw⟩ := hrel
    go_wp2_with (first
      | (at_next; refine wpList_next_ranges _ rfl _ rfl 9 lawS ndR Value.string ndV (fun key kl hkey => by obtain ⟨x, rfl, _⟩ := keyS_inv hkey; exact ⟨_, rfl⟩) (fun v y hv => ndR_any hv) mb w3.heap.size k D left cnt rfl hrg ?_ ?_)
      | go_in)
    · intro _ hl0
      have HSN := Lib.hid (Tryz.slices_Sort_string_none none 0 wr)
      clear hD hn
      go_wp2_with fail
      refine HSN.out.mono ?_
      rintro e w4 ⟨rfl, rfl⟩
      go_wp2_with fail
      go_ret2
      exact ⟨rfl, b2.trans (Below.mono ⟨hgw.os, hgw.tape, hgw.output, hgw.size, fun j hj => hgw.block j hj (by simp)⟩ b2.size)⟩
    · intro x cN kl y yp w4 cnt1 hkey hlx hv hat hrg1 hlt hg1 hs1 hen
      have hgw1 := hgw.andThen hg1 (fun j hj => by cases hj; exact Or.inl (Nat.le_refl _))
      obtain ⟨l, hl, rfl, hll⟩ := keyS_inv hkey
      obtain rfl : x = bs l := by injection hl
      have hhas : (T l).isSome = true := by rw [← (hD l).1]; exact Maps.has_true_of_atKey hat
      obtain ⟨n, hTn⟩ := Option.isSome_iff_exists.1 hhas
      have HU := Lib.hid (up_path l w4 (hK l n hTn))
      have hne := hn l n hTn
      have e1 : ((bs (upP l)).toList == (bs z).toList) = false := by rw [Lib.toList_data, Lib.toList_data, bs_list, bs_list]; simpa using hne
      clear hat hv hkey hlx hhas hl hne
      unfold ndV at hen
      go_wp2_with fail
      refine HU.out.mono ?_
      rintro e w5 ⟨rfl, m, rfl⟩
      have hrg2 := hrg1.kept (below_grownBy (drewN_below w4 m) none) (by simp) (by simp)
      have hgw2 : w3.grownBy (w4.drewN m) none := grownBy_trans hgw1 (below_grownBy (drewN_below w4 m) none)
      go_wp2_with fail
      go_roundw
      case rel => exact ⟨_, cnt1, rfl, hrg2, hgw2⟩
      case measure => rw [hrg2.left_eq, hrg.left_eq]; exact hlt
end Go.Proofs.YtblcpihfnpgfiaaGreatDoor
