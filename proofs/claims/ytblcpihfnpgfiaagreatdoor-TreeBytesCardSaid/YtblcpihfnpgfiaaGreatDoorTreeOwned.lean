/- Owned of a tree: whose paths, sorted. No conditions beyond those in each statement. -/
import Derived.Test.YtblcpihfnpgfiaaGreatDoorTreeDelete
import Derived.Sort.OwnSorted
import Derived.Sort.KeysCollected
import Derived.Deep.AppendLies
import Derived.Deep.Onto
namespace Go.Proofs.YtblcpihfnpgfiaaGreatDoor
open Go.RowKit Go.Maps Go.Sort
set_option linter.unusedVariables false
set_option linter.unusedSimpArgs false
set_option maxRecDepth 100000

theorem und_strs9 : Tryz.prog.underlying 35 = some (.slice 9) := by kernel_rfl
theorem info_str9 : (Tryz.prog.info? 9).map (fun i => (i.zero, i.size, i.bytes)) = some (some (.string ⟨#[]⟩), 1, 16) := by kernel_rfl
theorem leB_sorted (ss : List (List UInt8)) : (ss.mergeSort leB).Pairwise (fun a b => leB a b = true) := by
  have tr : ∀ a b c : List UInt8, leB a b = true → leB b c = true → leB a c = true := fun a b c h1 h2 => by simp only [leB, decide_eq_true_eq] at *; exact List.le_trans h1 h2
  have tot : ∀ a b : List UInt8, (leB a b || leB b a) = true := fun a b => by simp only [leB, Bool.or_eq_true, decide_eq_true_eq]; exact List.le_total a b
  exact List.pairwise_mergeSort tr tot ss
/-- What a list of paths is: no path twice, in order, those that have the word. -/
structure ListOf (ss : List (List UInt8)) (P : List UInt8 → Prop) : Prop where
  nodup : ss.Nodup
  sorted : ss.Pairwise (fun a b => leB a b = true)
  mem : ∀ x, x ∈ ss ↔ P x
theorem ListOf.of_sort {ss : List (List UInt8)} {P : List UInt8 → Prop} (h : ss.Nodup) (hm : ∀ x, x ∈ ss ↔ P x) : ListOf (ss.mergeSort leB) P :=
  ⟨(List.mergeSort_perm ss leB).nodup_iff.2 h, leB_sorted ss, fun x => by rw [(List.mergeSort_perm ss leB).mem_iff]; exact hm x⟩
set_option maxHeartbeats 4000000 in
theorem owned_any (tb mb k c : Nat) (T : List UInt8 → Option Nd) (o : Int) (w : World) (h : TrW w tb mb k c T) (hc1 : c ≤ 1000) (ho0 : o ≠ 0) :
    Calls Tryz.prog 16 #[.pointer (some ⟨tb, 0, none⟩), .int .i64 o] w fun e w' => ∃ v ss, e = .returned v ∧ w'.ownsRow w.heap.size 9 1 v ss.length (ss.map encStr) ∧ ListOf ss (fun x => ∃ n, T x = some n ∧ n.owner = o) ∧ Below w.heap.size w w' := by
  have e1 : (o == 0) = false := by simpa using ho0
  have HA := Lib.hid (all_any tb mb w h.cell)
  have hmb := h.map.lt
  obtain ⟨D, hoD, hcD, hD⟩ := h.map
  obtain ⟨i0, hi0, hz0, hz1, hz2⟩ := info_parts info_str9
  clear h ho0
  go_enter Tryz.func16, Tryz.ntmps16
  go_wp2_with fail
  refine HA.out.mono ?_
  rintro e w3 ⟨rfl, rfl⟩
  go_wp2_with (first
    | (at_range; refine wpList_range_own _ rfl _ 68 rfl 9 40 lawS und_map9 ndR mb k D rfl hoD ?_; intro w0 hrg0 hg0 hs0; go_frame)
    | go_in)
  go_loopw [5] (fun lv wr => ∃ (left : Lit → Bool) (cnt : Nat) (ss : List (List UInt8)), wr.ownsRow (w3.heap.size + 1) 9 1 lv ss.length (ss.map encStr) ∧ wr.ranges Tryz.prog 9 ndR mb w3.heap.size k D left cnt ∧ Below w3.heap.size w3 wr ∧ w3.heap.size + 1 ≤ wr.heap.size ∧ ss.length + cnt ≤ c ∧ Hid (ss.Nodup ∧ ∀ x, x ∈ ss ↔ ((∃ n, T x = some n ∧ n.owner = o) ∧ left (.string x) = false))) (fun _ wr => wr.rangeLeft mb w3.heap.size)
  case atStart =>
    refine ⟨_, _, [], World.ownsRow_nil _ _ _ _, hrg0, ⟨hg0.os, hg0.tape, hg0.output, hg0.size, fun j hj => hg0.block j hj (by simp)⟩, by omega, by simp [hcD], Lib.hid ⟨List.nodup_nil, fun x => ⟨fun hx => by simp at hx, fun hx => ?_⟩⟩⟩
    obtain ⟨⟨n, hn, _⟩, hl⟩ := hx
    rw [(hD x).1, hn] at hl; cases hl
  case round =>
    obtain ⟨left, cnt, ss, hown, hrg, bk, hsz, hlen, hmem⟩ := hrel
    go_wp2_with (first
      | (at_next; refine wpList_next_ranges _ rfl _ rfl 9 lawS ndR Value.string ndV (fun key kl hkey => by obtain ⟨x, rfl, _⟩ := keyS_inv hkey; exact ⟨_, rfl⟩) (fun v y hv => ndR_any hv) mb w3.heap.size k D left cnt rfl hrg ?_ ?_)
      | go_in)
    · intro _ hl0
      have hmem2 : Hid (ss.Nodup ∧ ∀ x, x ∈ ss ↔ (∃ n, T x = some n ∧ n.owner = o)) := Lib.hid ⟨hmem.out.1, fun x => by rw [hmem.out.2 x, hl0]; simp⟩
      clear hD hmem hrg hrg0
      rcases hown.2 with ⟨rfl, hn0⟩ | ⟨g, cap, cur, rfl, hb1, hb2, hb3, hb4, hb5, hb6⟩
      · have HSN := Lib.hid (Tryz.slices_Sort_string_none none 0 wr)
        obtain rfl : ss = [] := List.length_eq_zero_iff.1 hn0
        go_wp2_with fail
        refine HSN.out.mono ?_
        rintro e w4 ⟨rfl, rfl⟩
        go_wp2_with fail
        go_ret
        exact ⟨_, [], rfl, World.ownsRow_nil _ _ _ _, ⟨List.nodup_nil, List.Pairwise.nil, hmem2.out.2⟩, bk⟩
      · have HSN := Lib.hid (Tryz.slices_Sort_string g 0 cap ss wr (holds_of_block hb2 (by rw [← hb6]; simp)) (Array.getElem?_eq_some_iff.1 hb2).1 (by omega))
        have HB2 := Lib.hid hb2
        clear hb6 hb2 hown
        go_wp2_with fail
        refine HSN.out.mono ?_
        rintro e w4 ⟨rfl, n4, os4, rfl⟩
        go_wp2_with fail
        go_ret
        have hts : (ss.mergeSort leB).length = ss.length := (List.mergeSort_perm ss leB).length_eq
        refine ⟨_, ss.mergeSort leB, rfl, ?_, ListOf.of_sort hmem2.out.1 hmem2.out.2, bk.grown (grownBy_sorted _) bk.size (fun j hj => by cases hj; omega)⟩
        have := (ownsRow_sorted (n := n4) (os := os4) (ts := ss.mergeSort leB) hts (Nat.le_trans (Nat.le_succ _) hb1) HB2.out hb3 hb4 hb5 : World.ownsRow _ w3.heap.size _ _ _ _ _)
        rw [hts]; exact this
    · intro x cN kl y yp w4 cnt1 hkey hlx hv hat hrg1 hlt hg1 hs1 hen
      obtain ⟨l, hl, rfl, hll⟩ := keyS_inv hkey
      obtain rfl : x = bs l := by injection hl
      have hhas : (T l).isSome = true := by rw [← (hD l).1]; exact Maps.has_true_of_atKey hat
      obtain ⟨n, hTn⟩ := Option.isSome_iff_exists.1 hhas
      have hcn : cN = n := by
        rw [ndR_mk] at hv
        injection hv with hv
        injection hv with hv _
        exact ndD_inj (hv.trans ((hat (ndD Nd.zero)).symm.trans ((hD l).2 n hTn)))
      subst hcn
      have b4 : Below w3.heap.size w3 w4 := bk.grown hg1 bk.size (fun j hj => by cases hj; exact Nat.le_refl _)
      have R4 : w4.ownsRow (w3.heap.size + 1) 9 1 u5 ss.length (ss.map encStr) := hown.kept hg1 (by
        cases e : u5.ownBlock with
        | none => exact .inl rfl
        | some j => right; intro e2; have := (World.ownsRow.lt hown j e).1; injection e2 with e2; omega)
      have hmem' : ∀ z, (left (.string z) && !(Lit.string z).sameKey (.string l)) = false ↔ (left (.string z) = false ∨ z = l) := fun z => by
        by_cases e : z = l
        · subst e; simp [Go.WideAt.sameKey_self (isKeyS z)]
        · simp [Maps.sameKey_ne (key_neS e), e]
      have HM := Lib.hid hmem'
      have LE := Lib.hid hrg.left_eq
      have HTN := Lib.hid hTn
      have hsz4 : w3.heap.size + 1 ≤ w4.heap.size := by omega
      clear hs1 hsz hs0 hg1 hat hv hkey hhas hl hown hrg hrg0 hg0 hTn hmem' bk hoD
      unfold ndV at hen
      by_cases ho : cN.owner = o
      · have e2 : (cN.owner == o) = true := by simpa using ho
        have HO := Lib.hid ho
        clear ho
        have bA := (b4.alloc b4.size (.cells (ndC cN) 40))
        have bB := bA.alloc bA.size (.cells #[.string (bs l)] 9)
        have rA := (R4.alloc (.cells (ndC cN) 40)).alloc (.cells #[.string (bs l)] 9)
        have gA := (hrg1.alloc (.cells (ndC cN) 40)).alloc (.cells #[.string (bs l)] 9)
        have hnA := heap_alloc_new (w4.alloc (.cells (ndC cN) 40)) (.cells #[.string (bs l)] 9)
        rw [World.size_alloc] at hnA
        have HNW := Lib.hid (World.news_of_block hnA)
        clear hnA
        unfold ndC at bA bB rA gA HNW
        go_wp2_with (at_builtin; refine wpList_append_lies _ rfl _ _ _ rfl (w3.heap.size + 1) 9 i0 _ 1 16 und_strs9 hi0 hz0 hz1 hz2 rfl (by decide) u5 ss.length (ss.map encStr) rfl rA ⟨w4.heap.size + 1, 0, none⟩ 1 1 [.string (bs l)] rfl rfl HNW.out (by simp [Value.oneCell']) (by decide) (by unfold maxLen; omega) (by omega) (by simp; omega) (w4.heap.size + 1 + 1) (by simp) ?_; intro g4 cap4 w7 hown7 hgrow7 hat7 hlt7; go_frame)
        have hlx' := hlx
        go_roundw
        case rel =>
          refine ⟨_, cnt1, ss ++ [l], ?_, gA.kept hgrow7 (row_ne_low rA (by omega)) (row_ne_iter rA gA), bB.grown hgrow7 bB.size (fun j hj => by have := (World.ownsRow.lt rA j hj).1; omega), ?_, by simp; omega, Lib.hid ⟨?_, fun z => ?_⟩⟩
          · rw [List.length_append, List.map_append]; exact hown7
          · have := hgrow7.size; simp at this; omega
          · refine List.nodup_append.2 ⟨hmem.out.1, by simp, fun a ha b hb => ?_⟩
            simp at hb; subst hb
            intro e
            have := ((hmem.out.2 a).1 ha).2
            rw [e] at this; rw [this] at hlx; cases hlx
          · rw [List.mem_append, hmem.out.2 z, HM.out z, List.mem_singleton]
            constructor
            · rintro (⟨h1, h2⟩ | h1)
              · exact ⟨h1, .inl h2⟩
              · exact ⟨⟨cN, by rw [h1]; exact HTN.out, HO.out⟩, .inr h1⟩
            · rintro ⟨h1, h2 | h2⟩
              · exact .inl ⟨h1, h2⟩
              · exact .inr h2
        case measure => rw [(gA.kept hgrow7 (row_ne_low rA (by omega)) (row_ne_iter rA gA)).left_eq, LE.out]; exact hlt
      · have e2 : (cN.owner == o) = false := by simpa using ho
        have HO := Lib.hid ho
        clear ho
        have bA := (b4.alloc b4.size (.cells (ndC cN) 40))
        have rA := (R4.alloc (.cells (ndC cN) 40))
        have gA := (hrg1.alloc (.cells (ndC cN) 40))
        unfold ndC at bA rA gA
        go_wp2_with fail
        go_roundw
        case rel =>
          refine ⟨_, cnt1, ss, rA, gA, bA, by simp; omega, by omega, Lib.hid ⟨hmem.out.1, fun z => ?_⟩⟩
          rw [hmem.out.2 z, HM.out z]
          constructor
          · rintro ⟨h1, h2⟩; exact ⟨h1, .inl h2⟩
          · rintro ⟨⟨n, h1, h3⟩, h2 | h2⟩
            · exact ⟨⟨n, h1, h3⟩, h2⟩
            · rw [h2, HTN.out] at h1; injection h1 with h1; rw [← h1] at h3; exact absurd h3 HO.out
        case measure => rw [gA.left_eq, LE.out]; exact hlt
end Go.Proofs.YtblcpihfnpgfiaaGreatDoor
