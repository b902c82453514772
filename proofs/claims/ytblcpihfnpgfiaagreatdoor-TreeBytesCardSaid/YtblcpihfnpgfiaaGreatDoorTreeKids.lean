/- Kids of a tree's node; Delete of any node. No conditions beyond those in each statement. -/
import Derived.Test.YtblcpihfnpgfiaaGreatDoorTreeOwned
namespace Go.Proofs.YtblcpihfnpgfiaaGreatDoor
open Go.RowKit Go.Maps Go.Sort
set_option linter.unusedVariables false
set_option linter.unusedSimpArgs false
set_option maxRecDepth 100000

set_option maxHeartbeats 4000000 in
theorem kids_any (tb mb k c : Nat) (T : List UInt8 → Option Nd) (z : List UInt8) (nd : Nd) (w : World) (h : TrW w tb mb k c T) (hc1 : c ≤ 1000) (hz : z.length ≤ 1000) (hK : KeysOk T) (hck : checkL z = true) (hT : T z = some nd) :
    Calls Tryz.prog 13 #[.pointer (some ⟨tb, 0, none⟩), .string (bs z)] w fun e w' => ∃ (v : Value) (ss : List (List UInt8)), e = .returned (.tuple #[v, .int .i64 0]) ∧ w'.ownsRow w.heap.size 9 1 v ss.length (((ss.map lastP).mergeSort leB).map encStr) ∧ ss.Nodup ∧ (∀ x, x ∈ ss ↔ ∃ n, T x = some n ∧ upP x = z) ∧ Below w.heap.size w w' := by
  have HG := Lib.hid (get_any tb mb k c T z w h (by omega))
  have hG : getN T z = (nd, 0) := by unfold getN; rw [hck, hT]; rfl
  rw [hG] at HG
  unfold ndV at HG
  have HH := Lib.hid h
  obtain ⟨i0, hi0, hz0, hz1, hz2⟩ := info_parts info_str9
  clear hG h hck hT
  go_enter Tryz.func13, Tryz.ntmps13
  go_wp2_with fail
  refine HG.out.mono ?_
  rintro e w1 ⟨rfl, b1⟩
  have b2 := b1.alloc b1.size (.cells (ndC nd) 40)
  unfold ndC at b2
  go_upto_region 5 with fail
  obtain ⟨w2, hw2⟩ : ∃ w2, w2 = w1.alloc (.cells #[.string nd.data, .int .i64 nd.ver, .int .i64 nd.below, .int .i64 nd.owner, .int .i64 nd.made, .int .i64 nd.put, .int .i64 nd.serial] 40) := ⟨_, rfl⟩
  rw [← hw2] at b2 ⊢
  have H2 := HH.out.below b2
  have HA := Lib.hid (all_any tb mb w2 H2.cell)
  have hmb := H2.map.lt
  obtain ⟨D, hoD, hcD, hD⟩ := H2.map
  clear hw2 b1 H2
  go_wp2_with fail
  refine HA.out.mono ?_
  rintro e w3 ⟨rfl, rfl⟩
  go_wp2_with (first
    | (at_range; refine wpList_range_own _ rfl _ 68 rfl 9 40 lawS und_map9 ndR mb k D rfl hoD ?_; intro w0 hrg0 hg0 hs0; go_frame)
    | go_in)
  go_loopw [8] (fun lv wr => ∃ (left : Lit → Bool) (cnt : Nat) (ss : List (List UInt8)), wr.ownsRow (w3.heap.size + 1) 9 1 lv ss.length ((ss.map lastP).map encStr) ∧ wr.ranges Tryz.prog 9 ndR mb w3.heap.size k D left cnt ∧ Below w3.heap.size w3 wr ∧ w3.heap.size + 1 ≤ wr.heap.size ∧ ss.length + cnt ≤ c ∧ Hid (ss.Nodup ∧ ∀ x, x ∈ ss ↔ ((∃ n, T x = some n ∧ upP x = z) ∧ left (.string x) = false))) (fun _ wr => wr.rangeLeft mb w3.heap.size)
  case atStart =>
    refine ⟨_, _, [], World.ownsRow_nil _ _ _ _, hrg0, ⟨hg0.os, hg0.tape, hg0.output, hg0.size, fun j hj => hg0.block j hj (by simp)⟩, by omega, by simp [hcD], Lib.hid ⟨List.nodup_nil, fun x => ⟨fun hx => by simp at hx, fun hx => ?_⟩⟩⟩
    obtain ⟨⟨n, hn, _⟩, hl⟩ := hx
    rw [(hD x).1, hn] at hl; cases hl
  case round =>
    obtain ⟨left, cnt, ss, hown, hrg, bk, hsz, hlen, hmem⟩ := hrel
    go_wp2_with (first
      | (at_next; refine wpList_next_ranges _ rfl _ rfl 9 lawS ndR Value.string ndV (fun key kl hkey => by obtain ⟨x, rfl, _⟩ := keyS_inv hkey; exact ⟨_, rfl⟩) (fun v y hv => ndR_any hv) mb w3.heap.size k D left cnt rfl hrg ?_ ?_)
      | go_in)
    · intro _ hl0
      have hmem2 : Hid (ss.Nodup ∧ ∀ x, x ∈ ss ↔ (∃ n, T x = some n ∧ upP x = z)) := Lib.hid ⟨hmem.out.1, fun x => by rw [hmem.out.2 x, hl0]; simp⟩
      clear hD hmem hrg hrg0
      rcases hown.2 with ⟨rfl, hn0⟩ | ⟨g, cap, cur, rfl, hb1, hb2, hb3, hb4, hb5, hb6⟩
      · have HSN := Lib.hid (Tryz.slices_Sort_string_none none 0 wr)
        obtain rfl : ss = [] := List.length_eq_zero_iff.1 hn0
        go_wp2_with fail
        refine HSN.out.mono ?_
        rintro e w4 ⟨rfl, rfl⟩
        go_wp2_with fail
        go_ret2
        exact ⟨_, [], rfl, by simpa using World.ownsRow_nil _ _ _ _, List.nodup_nil, hmem2.out.2, b2.trans (bk.mono b2.size)⟩
      · have HSN0 := Tryz.slices_Sort_string g 0 cap (ss.map lastP) wr (holds_of_block hb2 (by rw [← hb6]; simp)) (Array.getElem?_eq_some_iff.1 hb2).1 (by simp; omega)
        rw [List.length_map] at HSN0
        have HSN := Lib.hid HSN0
        have HB2 := Lib.hid hb2
        clear hb6 hb2 hown HSN0
        go_wp2_with fail
        refine HSN.out.mono ?_
        rintro e w4 ⟨rfl, n4, os4, rfl⟩
        go_wp2_with fail
        go_ret2
        have hts : ((ss.map lastP).mergeSort leB).length = (ss.map lastP).length := (List.mergeSort_perm _ leB).length_eq
        refine ⟨_, ss, rfl, ?_, hmem2.out.1, hmem2.out.2, b2.trans ((bk.grown (grownBy_sorted _) bk.size (fun j hj => by cases hj; omega)).mono b2.size)⟩
        have := (ownsRow_sorted (n := n4) (os := os4) (ts := (ss.map lastP).mergeSort leB) hts (Nat.le_trans b2.size (Nat.le_trans (Nat.le_succ _) hb1)) HB2.out (by rw [List.length_map]; exact hb3) hb4 hb5 : World.ownsRow _ _ _ _ _ _ _)
        rw [List.length_map] at this; exact this
    · intro x cN kl y yp w4 cnt1 hkey hlx hv hat hrg1 hlt hg1 hs1 hen
      obtain ⟨l, hl, rfl, hll⟩ := keyS_inv hkey
      obtain rfl : x = bs l := by injection hl
      have hhas : (T l).isSome = true := by rw [← (hD l).1]; exact Maps.has_true_of_atKey hat
      obtain ⟨n, hTn⟩ := Option.isSome_iff_exists.1 hhas
      have hcn : cN = n := by
        rw [ndR_mk] at hv
        injection hv with hv
        injection hv with hv _
        exact ndD_inj (hv.trans ((hat (ndD Nd.zero)).symm.trans ((hD l).2 n hTn)))
      subst hcn
      have b4 : Below w3.heap.size w3 w4 := bk.grown hg1 bk.size (fun j hj => by cases hj; exact Nat.le_refl _)
      have R4 : w4.ownsRow (w3.heap.size + 1) 9 1 u8 ss.length ((ss.map lastP).map encStr) := hown.kept hg1 (by
        cases e : u8.ownBlock with
        | none => exact .inl rfl
        | some j => right; intro e2; have := (World.ownsRow.lt hown j e).1; injection e2 with e2; omega)
      have hmem' : ∀ z, (left (.string z) && !(Lit.string z).sameKey (.string l)) = false ↔ (left (.string z) = false ∨ z = l) := fun z => by
        by_cases e : z = l
        · subst e; simp [Go.WideAt.sameKey_self (isKeyS z)]
        · simp [Maps.sameKey_ne (key_neS e), e]
      have HM := Lib.hid hmem'
      have LE := Lib.hid hrg.left_eq
      have HTN := Lib.hid hTn
      have hsz4 : w3.heap.size + 1 ≤ w4.heap.size := by omega
      clear hs1 hsz hs0 hg1 hat hv hkey hhas hl hown hrg hrg0 hg0 hTn hmem' bk hoD
      unfold ndV at hen
      have HU := Lib.hid (up_path l w4 (hK l cN HTN.out))
      by_cases ho : upP l = z
      · have e2 : ((bs (upP l)).toList == (bs z).toList) = true := by rw [Lib.toList_data, Lib.toList_data, bs_list, bs_list]; simpa using ho
        have HO := Lib.hid ho
        clear ho
        go_wp2_with fail
        refine HU.out.mono ?_
        rintro e w5 ⟨rfl, m, hw5⟩
        have b5 : Below w4.heap.size w4 w5 := by rw [hw5]; exact drewN_below w4 m
        have s5 : w5.heap.size = w4.heap.size := by rw [hw5]; rfl
        have bB0 := b4.trans (b5.mono b4.size)
        have bB := bB0.alloc bB0.size (.cells #[.string (bs (lastP l))] 9)
        have R5 : w5.ownsRow (w3.heap.size + 1) 9 1 u8 ss.length ((ss.map lastP).map encStr) := R4.kept (below_grownBy b5 none) (by cases u8.ownBlock <;> simp)
        have rA := R5.alloc (.cells #[.string (bs (lastP l))] 9)
        have gA := (hrg1.kept (below_grownBy b5 none) (by simp) (by simp)).alloc (.cells #[.string (bs (lastP l))] 9)
        have hnA := heap_alloc_new w5 (.cells #[.string (bs (lastP l))] 9)
        have HNW := Lib.hid (World.news_of_block hnA)
        have hsz5 : w3.heap.size + 1 ≤ w5.heap.size := by omega
        clear hnA hw5 s5
        go_wp2_with (at_builtin; refine wpList_append_lies _ rfl _ _ _ rfl (w3.heap.size + 1) 9 i0 _ 1 16 und_strs9 hi0 hz0 hz1 hz2 rfl (by decide) u8 ss.length ((ss.map lastP).map encStr) rfl rA ⟨w5.heap.size, 0, none⟩ 1 1 [.string (bs (lastP l))] rfl rfl HNW.out (by simp [Value.oneCell']) (by decide) (by unfold maxLen; omega) (by omega) (by simp; omega) (w5.heap.size + 1) (by simp) ?_; intro g4 cap4 w7 hown7 hgrow7 hat7 hlt7; go_frame)
        go_roundw
        case rel =>
          refine ⟨_, cnt1, ss ++ [l], ?_, gA.kept hgrow7 (row_ne_low rA (by omega)) (row_ne_iter rA gA), bB.grown hgrow7 bB.size (fun j hj => by have := (World.ownsRow.lt rA j hj).1; omega), ?_, by simp; omega, Lib.hid ⟨?_, fun z => ?_⟩⟩
          · rw [List.length_append, List.map_append, List.map_append]; exact hown7
          · have := hgrow7.size; simp at this; omega
          · refine List.nodup_append.2 ⟨hmem.out.1, by simp, fun a ha b hb => ?_⟩
            simp at hb; subst hb
            intro e
            have := ((hmem.out.2 a).1 ha).2
            rw [e] at this; rw [this] at hlx; cases hlx
          · rw [List.mem_append, hmem.out.2 z, HM.out z, List.mem_singleton]
            constructor
            · rintro (⟨h1, h2⟩ | h1)
              · exact ⟨h1, .inl h2⟩
              · exact ⟨⟨cN, by rw [h1]; exact HTN.out, by rw [h1]; exact HO.out⟩, .inr h1⟩
            · rintro ⟨h1, h2 | h2⟩
              · exact .inl ⟨h1, h2⟩
              · exact .inr h2
        case measure => rw [(gA.kept hgrow7 (row_ne_low rA (by omega)) (row_ne_iter rA gA)).left_eq, LE.out]; exact hlt
      · have e2 : ((bs (upP l)).toList == (bs z).toList) = false := by rw [Lib.toList_data, Lib.toList_data, bs_list, bs_list]; simpa using ho
        have HO := Lib.hid ho
        clear ho
        go_wp2_with fail
        refine HU.out.mono ?_
        rintro e w5 ⟨rfl, m, hw5⟩
        have b5 : Below w4.heap.size w4 w5 := by rw [hw5]; exact drewN_below w4 m
        have s5 : w5.heap.size = w4.heap.size := by rw [hw5]; rfl
        have bB0 := b4.trans (b5.mono b4.size)
        have R5 : w5.ownsRow (w3.heap.size + 1) 9 1 u8 ss.length ((ss.map lastP).map encStr) := R4.kept (below_grownBy b5 none) (by cases u8.ownBlock <;> simp)
        have gA := (hrg1.kept (below_grownBy b5 none) (by simp) (by simp))
        have hsz5 : w3.heap.size + 1 ≤ w5.heap.size := by omega
        clear hw5 s5
        go_wp2_with fail
        go_roundw
        case rel =>
          refine ⟨_, cnt1, ss, R5, gA, bB0, by omega, by omega, Lib.hid ⟨hmem.out.1, fun z => ?_⟩⟩
          rw [hmem.out.2 z, HM.out z]
          constructor
          · rintro ⟨h1, h2⟩; exact ⟨h1, .inl h2⟩
          · rintro ⟨⟨n, h1, h3⟩, h2 | h2⟩
            · exact ⟨⟨n, h1, h3⟩, h2⟩
            · rw [h2] at h3; exact absurd h3 HO.out
        case measure => rw [gA.left_eq, LE.out]; exact hlt
end Go.Proofs.YtblcpihfnpgfiaaGreatDoor
