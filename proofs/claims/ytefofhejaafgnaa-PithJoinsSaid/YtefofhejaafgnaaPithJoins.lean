/- PithJoins: what is laid together is what is laid one behind the other, behind what stood there; no condition on the input. -/
import Derived.Test.YtefofhejaafgnaaJoins1
namespace Go.Proofs.Ytefofhejaafgnaa.pithJoins
open Go.ChangeShapes Go.WideShapes Go.ChangeAt Go.RowKit
open Go.ChangeMaps (open_string shut_string)
set_option linter.unusedVariables false

theorem lay_at (a1 : Option Addr) (la ca p1 o1 : Nat) (A : List Pt) (W : World) (hA : A.length = la) (hla : la ≤ 20) (ht : 0 < la → a1 = some ⟨p1, o1, none⟩ ∧ At W p1 o1 la A) (hs : ∀ j, j < la → (A.getD j pt0).s.size ≤ 300) :
    Calls Try.prog 15 #[.slice a1 la ca] W fun e w' => e = .returned (.string ⟨(laysE A).toArray⟩) ∧ Below W.heap.size W w' := by
  by_cases hz : la = 0
  · have he : A = [] := List.eq_nil_of_length_eq_zero (by rw [hA, hz])
    rw [he, hz]
    exact (lay_none a1 ca W).mono fun e w' ⟨h1, h2⟩ => ⟨h1, by rw [← h2]; exact Below.refl _ _⟩
  · obtain ⟨h1, h2, h3⟩ := ht (by omega)
    rw [h1, ← hA]
    refine lay_some p1 o1 ca A W h2 (fun j hj => ?_) (by omega)
    obtain ⟨c, hn, _⟩ := h3 j (by rw [← hA]; exact hj)
    have := hs j (by rw [← hA]; exact hj)
    exact ⟨c, hn, by omega⟩
theorem getD_left (A B : List Pt) (j : Nat) (h : j < A.length) : (A ++ B).getD j pt0 = A.getD j pt0 := by simp [List.getElem?_append_left h]
theorem getD_right (A B : List Pt) (j : Nat) : (A ++ B).getD (A.length + j) pt0 = B.getD j pt0 := by
  rw [List.getD_eq_getElem?_getD, List.getD_eq_getElem?_getD, List.getElem?_append_right (by omega), Nat.add_sub_cancel_left]

set_option maxRecDepth 100000 in
set_option maxHeartbeats 4000000 in
theorem walk_some (a1 b1 : Option Addr) (la ca lb cb : Nat) (A B : List Pt) (s : ByteArray) (w : World) (hs : s.size ≤ 100) (hla : la ≤ 20) (hlb : lb ≤ 20) (hA : A.length = la) (hB : B.length = lb) (hSA : SrcP w a1 la ca A) (hSB : SrcP w b1 lb cb B)
    (hz : ∀ p ∈ A ++ B, p.s.size ≤ maxLen) (p1 o1 p2 o2 : Nat) (hta : 0 < la → a1 = some ⟨p1, o1, none⟩ ∧ At w p1 o1 la A) (htb : 0 < lb → b1 = some ⟨p2, o2, none⟩ ∧ At w p2 o2 lb B) :
    Calls Try.prog 7 #[.slice a1 la ca, .slice b1 lb cb, .string s] w fun e w' => e = .returned (.bool true) ∧ Below w.heap.size w w' := by
  obtain ⟨i0, hi, hz0, hz1, hz2⟩ := info_parts info_part
  have hd1 : decide ((20 : Int) < (la : Int)) = false := by simp; omega
  have hd2 : decide ((20 : Int) < (lb : Int)) = false := by simp; omega
  have hd3 : decide ((100 : Int) < (s.size : Int)) = false := by simp; omega
  have HSA := Lib.hid hSA
  have HSB := Lib.hid hSB
  have HLA := Lib.hid hA
  have HLB := Lib.hid hB
  have HZ := Lib.hid hz
  have HTA := Lib.hid hta
  have HTB := Lib.hid htb
  clear hSA hSB hA hB hz hta htb
  go_enter Try.func7, Try.ntmps7
  go_upto_region 6 with (go_at_call 10; refine (head_any _).mono ?_; rintro e w1 ⟨rfl, hb1⟩)
  go_cut [29, 30, 31] (fun v n i wx => Ps wx w.heap.size v (A ++ B) ∧ n = .int .i64 ((la + lb : Nat) : Int) ∧ i = .int .i64 0 ∧ Below w.heap.size w wx)
  case first =>
    have hb2 := hb1.alloc hb1.size (.cells #[] 26)
    have hs2 : Ps (w1.alloc (.cells #[] 26)) w.heap.size (.slice (some ⟨w1.heap.size, 0, none⟩) 0 0) [] :=
      ⟨rfl, .inr ⟨w1.heap.size, 0, #[], rfl, hb1.size, heap_alloc_new w1 _, Nat.le_refl _, by unfold maxLen; omega, rfl, rfl⟩⟩
    rcases HSA.out.below hb2 with ⟨rfl, rfl, rfl, rfl⟩ | ⟨x, rfl, hxa⟩
    · rcases HSB.out.below hb2 with ⟨rfl, rfl, rfl, rfl⟩ | ⟨y, rfl, hxb⟩
      · have HO1 := Lib.hid hs2
        clear hs2
        go_wp2_with (first | (at_builtin; refine wpList_append_own_none (o := ⟨some 27, _, _, _, _, _⟩) rfl _ _ 22 rfl w.heap.size 26 i0 3 und_parts hi _ _ _ rfl HO1.out rfl ?_) | (at_builtin; refine wpList_append_own_none (o := ⟨some 29, _, _, _, _, _⟩) rfl _ _ 22 rfl w.heap.size 26 i0 3 und_parts hi _ _ _ rfl HO1.out rfl ?_))
        go_meet
        exact ⟨HO1.out, by simp, rfl, hb2⟩
      · have HO1 := Lib.hid hs2
        clear hs2
        have hp2 := pc_length B
        have HPL2 := Lib.hid (show (pc B).length = lb * 3 by rw [hp2, HLB.out])
        have HN2 := Lib.hid hxb
        have H632 := Lib.hid (show 0 + lb ≤ maxLen by unfold maxLen; omega)
        have H472 := Lib.hid (show (0 + lb) * 32 ≤ 140737488355328 by omega)
        have HBS2 := Lib.hid (show w.heap.size ≤ (w1.alloc (.cells #[] 26)).heap.size from hb2.size)
        clear hp2 hxb
        go_wp2_with (first | (at_builtin; refine wpList_append_own_none (o := ⟨some 27, _, _, _, _, _⟩) rfl _ _ 22 rfl w.heap.size 26 i0 3 und_parts hi _ _ _ rfl HO1.out rfl ?_) | (at_builtin; refine wpList_append_own (o := ⟨some 29, _, _, _, _, _⟩) _ rfl _ _ 22 rfl w.heap.size 26 i0 (.agg #[.int .i64 0, .int .i64 0, .string ⟨#[]⟩]) 3 32 und_parts hi hz0 hz1 hz2 rfl (by decide) _ _ _ rfl HO1.out y lb cb (pc B) rfl HPL2.out HN2.out (pc_one B) H632.out H472.out HBS2.out ?_))
        intro v4 w4 ho4 hg4 _
        have hs4 : Ps w4 w.heap.size v4 B := ps_new HLB.out ho4
        have hb4 := hb2.grown hg4 hb2.size (Ps.own HO1.out)
        obtain ⟨a9, c9, rfl, _⟩ := hs4.shape lb HLB.out
        clear ho4 hg4
        have HS4 := Lib.hid hs4
        clear hs4
        go_wp2_with fail
        go_meet
        exact ⟨by simpa using HS4.out, by simp, rfl, hb4⟩
    · rcases HSB.out.below hb2 with ⟨rfl, rfl, rfl, rfl⟩ | ⟨y, rfl, _⟩
      · have hp1 := pc_length A
        have HPL1 := Lib.hid (show (pc A).length = la * 3 by rw [hp1, HLA.out])
        have HN1 := Lib.hid hxa
        have H631 := Lib.hid (show 0 + la ≤ maxLen by unfold maxLen; omega)
        have H471 := Lib.hid (show (0 + la) * 32 ≤ 140737488355328 by omega)
        have HBS1 := Lib.hid (show w.heap.size ≤ (w1.alloc (.cells #[] 26)).heap.size from hb2.size)
        clear hp1 hxa
        have HO1 := Lib.hid hs2
        clear hs2
        go_wp2_with (at_builtin; refine wpList_append_own (o := ⟨some 27, _, _, _, _, _⟩) _ rfl _ _ 22 rfl w.heap.size 26 i0 (.agg #[.int .i64 0, .int .i64 0, .string ⟨#[]⟩]) 3 32 und_parts hi hz0 hz1 hz2 rfl (by decide) _ _ _ rfl HO1.out x la ca (pc A) rfl HPL1.out HN1.out (pc_one A) H631.out H471.out HBS1.out ?_)
        intro v3 w3 ho3 hg3 _
        have hs3 : Ps w3 w.heap.size v3 A := ps_new HLA.out ho3
        have hb3 := hb2.grown hg3 hb2.size (Ps.own HO1.out)
        clear ho3 hg3
        have HO2 := Lib.hid hs3
        clear hs3
        go_wp2_with (at_builtin; refine none_stop (o := ⟨some 29, _, _, _, _, _⟩) rfl _ _ 22 rfl w.heap.size 26 i0 3 und_parts hi _ _ _ rfl HO2.out rfl ?_)
        intro z9 hz9
        obtain rfl := hz9.out
        obtain ⟨a9, c9, rfl, _⟩ := HO2.out.shape la HLA.out
        go_wp2_with fail
        go_meet
        exact ⟨by simpa using HO2.out, by simp, rfl, hb3⟩
      · have hp1 := pc_length A
        have HPL1 := Lib.hid (show (pc A).length = la * 3 by rw [hp1, HLA.out])
        have HN1 := Lib.hid hxa
        have H631 := Lib.hid (show 0 + la ≤ maxLen by unfold maxLen; omega)
        have H471 := Lib.hid (show (0 + la) * 32 ≤ 140737488355328 by omega)
        have HBS1 := Lib.hid (show w.heap.size ≤ (w1.alloc (.cells #[] 26)).heap.size from hb2.size)
        clear hp1 hxa
        have HO1 := Lib.hid hs2
        clear hs2
        go_wp2_with (at_builtin; refine wpList_append_own (o := ⟨some 27, _, _, _, _, _⟩) _ rfl _ _ 22 rfl w.heap.size 26 i0 (.agg #[.int .i64 0, .int .i64 0, .string ⟨#[]⟩]) 3 32 und_parts hi hz0 hz1 hz2 rfl (by decide) _ _ _ rfl HO1.out x la ca (pc A) rfl HPL1.out HN1.out (pc_one A) H631.out H471.out HBS1.out ?_)
        intro v3 w3 ho3 hg3 _
        have hs3 : Ps w3 w.heap.size v3 A := ps_new HLA.out ho3
        have hb3 := hb2.grown hg3 hb2.size (Ps.own HO1.out)
        clear ho3 hg3
        rcases HSB.out.below hb3 with ⟨h, _⟩ | ⟨y', hy', hxb⟩
        · exact absurd h (by simp)
        obtain rfl := Option.some.inj hy'
        clear hy'
        have hp2 := pc_length B
        have HPL2 := Lib.hid (show (pc B).length = lb * 3 by rw [hp2, HLB.out])
        have HN2 := Lib.hid hxb
        have H632 := Lib.hid (show A.length + lb ≤ maxLen by have := HLA.out; unfold maxLen; omega)
        have H472 := Lib.hid (show (A.length + lb) * 32 ≤ 140737488355328 by have := HLA.out; omega)
        have HBS2 := Lib.hid (show w.heap.size ≤ w3.heap.size from hb3.size)
        clear hp2 hxb
        have HO2 := Lib.hid hs3
        clear hs3
        go_wp2_with (at_builtin; refine wpList_append_own (o := ⟨some 29, _, _, _, _, _⟩) _ rfl _ _ 22 rfl w.heap.size 26 i0 (.agg #[.int .i64 0, .int .i64 0, .string ⟨#[]⟩]) 3 32 und_parts hi hz0 hz1 hz2 rfl (by decide) _ _ _ rfl HO2.out y lb cb (pc B) rfl HPL2.out HN2.out (pc_one B) H632.out H472.out HBS2.out ?_)
        intro v4 w4 ho4 hg4 _
        have hs4 := ps_add (L := A) rfl HLB.out ho4
        have hb4 := hb3.grown hg4 hb3.size (Ps.own HO2.out)
        obtain ⟨a9, c9, rfl, _⟩ := hs4.shape (la + lb) (by rw [List.length_append, HLA.out, HLB.out])
        clear ho4 hg4
        have HS4 := Lib.hid hs4
        clear hs4
        go_wp2_with fail
        go_meet
        exact ⟨HS4.out, by simp, rfl, hb4⟩
  case rest =>
    obtain ⟨hown, rfl, rfl, hb5⟩ := hcut
    obtain ⟨a9, c9, rfl, hcells⟩ := hown.shape (la + lb) (by rw [List.length_append, HLA.out, HLB.out])
    have HCE := Lib.hid hcells
    have HLT0 : Hid (∀ j, j < la + lb → ((A ++ B).getD j pt0).s.size ≤ maxLen) := fun j hj => HZ.out _ (by
      rw [show (A ++ B).getD j pt0 = (A ++ B)[j]'(by rw [List.length_append, HLA.out, HLB.out]; exact hj) by simp [show j < A.length + B.length by rw [HLA.out, HLB.out]; exact hj]]
      exact List.getElem_mem _)
    have hlab : la + lb ≤ 40 := by omega
    clear hown hcells
    go_wp2_with fail
    go_loopw [31] (fun i wr => ∃ k : Nat, k ≤ la + lb ∧ i = .int .i64 k ∧ Hid (∀ j, j < k → ((A ++ B).getD j pt0).s.size ≤ 300) ∧ Below wc.heap.size wc wr) (fun i _ => la + lb - (intOf i).toNat)
    case atStart => exact ⟨0, Nat.zero_le _, rfl, fun j hj => absurd hj (by omega), Below.refl _ _⟩
    case round =>
      obtain ⟨k, hk, rfl, HLT, hbw⟩ := hrel
      by_cases hlt : k < la + lb
      · obtain ⟨g, ha9, hgl, hcc⟩ := HCE.out (by omega)
        subst ha9
        obtain ⟨c0, c1, c2⟩ := hcc k hlt
        rw [← hbw.cell (p := ⟨g, k * 3, none⟩) hgl] at c0
        rw [← hbw.cell (p := ⟨g, k * 3 + 1, none⟩) hgl] at c1
        rw [← hbw.cell (p := ⟨g, k * 3 + 2, none⟩) hgl] at c2
        have b2 := HLT0.out k hlt
        have HG := Lib.hid (show ∀ j, j < k + 1 → ((A ++ B).getD k pt0).s.size ≤ 300 → ((A ++ B).getD j pt0).s.size ≤ 300 by
          intro j hj h3
          by_cases hjk : j = k
          · rw [hjk]; exact h3
          · exact HLT.out j (by omega))
        clear hcc
        generalize (A ++ B).getD k pt0 = p at *
        obtain ⟨pk, pn, ss⟩ := p
        simp only at c0 c1 c2 b2 HG
        unfold maxLen at b2
        have hbe := hbw.alloc hbw.size (.cells #[.int .i64 pk, .int .i64 pn, .string ss] 26)
        by_cases hs3 : 300 < ss.size
        · have hds : decide ((300 : Int) < (ss.size : Int)) = true := by simp; omega
          go_wp2_with fail
          go_ret
          exact ⟨rfl, hb5.trans (hbe.mono hb5.size)⟩
        · have hds : decide ((300 : Int) < (ss.size : Int)) = false := by simp; omega
          have HLT2 : Hid (∀ j, j < k + 1 → ((A ++ B).getD j pt0).s.size ≤ 300) := fun j hj => HG.out j hj (by omega)
          go_wp2_with fail
          go_roundw
          case rel => exact ⟨k + 1, by omega, by go_num, HLT2, hbe⟩
          case measure => simp [intOf]; omega
      · have hb6 := hb5.trans (hbw.mono hb5.size)
        obtain ⟨cap, hcap⟩ : ∃ cap, cap = grownCap wr.drew s.size 0 5 := ⟨_, rfl⟩
        have hcb := run_bytes_of_string (P := Try.prog) wr.drew 9 24 5 s und_string und_bytes und_u8
        rw [← hcap] at hcb
        obtain ⟨R, hR⟩ : ∃ R, R = bytesRow s cap := ⟨_, rfl⟩
        rw [← hR] at hcb
        have hRs : s.size ≤ cap := by rw [hcap]; exact grownCap_ge _ _ _ _
        have hsrc0 : Src ((wr.alloc (.cells R 5 (R.size, R.size + 1))).drew.drew) (.slice (some ⟨wr.heap.size, 0, none⟩) s.size cap) s.data.toList := by
          refine ⟨_, cap, by rw [← Lib.size_eq], .inr ⟨_, rfl, fun j x hx => ?_⟩⟩
          have hj : j < s.data.toList.length := by
            have := (List.getElem?_eq_some_iff.1 hx).1
            rwa [cellsOf_length] at this
          rw [show (Addr.add ⟨wr.heap.size, 0, none⟩ j : Addr) = ⟨wr.heap.size, j, none⟩ by simp [Addr.add]; omega]
          have h := heap_alloc_new wr (.cells R 5 (R.size, R.size + 1))
          show (wr.alloc (.cells R 5 (R.size, R.size + 1))).cell? ⟨wr.heap.size, j, none⟩ = some x
          simp only [World.cell?, h]
          rw [hR]
          unfold bytesRow
          rw [← hx]
          have hj2 : j < s.data.size := by simpa using hj
          have hj3 : ¬ s.size ≤ j := by have : s.size = s.data.size := rfl; omega
          simp [cellsOf, Array.getElem?_append, hj2]
          exact fun hh => absurd hh hj3
        have hB0 : Below w.heap.size w ((wr.alloc (.cells R 5 (R.size, R.size + 1))).drew.drew) := (hb6.alloc hb6.size _).drew.drew
        have hk2 : k = la + lb := by omega
        have hsA : ∀ j, j < la → (A.getD j pt0).s.size ≤ 300 := fun j hj => by
          have := HLT.out j (by omega)
          rwa [getD_left A B j (by rw [HLA.out]; exact hj)] at this
        have hsB : ∀ j, j < lb → (B.getD j pt0).s.size ≤ 300 := fun j hj => by
          have := HLT.out (la + j) (by omega)
          rwa [← HLA.out, getD_right A B j] at this
        obtain ⟨XA, hXA⟩ : ∃ XA, XA = ByteArray.mk (laysE A).toArray := ⟨_, rfl⟩
        obtain ⟨XB, hXB⟩ : ∃ XB, XB = ByteArray.mk (laysE B).toArray := ⟨_, rfl⟩
        obtain ⟨Q, hQ⟩ : ∃ Q, Q = ByteArray.mk (s.data.toList ++ laysE A ++ laysE B).toArray := ⟨_, rfl⟩
        have hXAs : XA.size ≤ 1310740 := by rw [hXA, size_mk]; have := laysE_length A; rw [HLA.out] at this; omega
        have hXBs : XB.size ≤ 1310740 := by rw [hXB, size_mk]; have := laysE_length B; rw [HLB.out] at this; omega
        have hcat : s ++ XA ++ XB = Q := by rw [hXA, hXB, hQ]; apply ByteArray.ext; simp
        have HLYA := Lib.hid (fun (W : World) (hW : Below w.heap.size w W) => lay_at a1 la ca p1 o1 A W HLA.out hla (fun h => ⟨(HTA.out h).1, (HTA.out h).2.below hW⟩) hsA)
        have HLYB := Lib.hid (fun (W : World) (hW : Below w.heap.size w W) => lay_at b1 lb cb p2 o2 B W HLB.out hlb (fun h => ⟨(HTB.out h).1, (HTB.out h).2.below hW⟩) hsB)
        rw [← hXA] at HLYA
        rw [← hXB] at HLYB
        have HLDA := Lib.hid (fun (W : World) (hW : Below w.heap.size w W) (hS : Src W (.slice (some ⟨wr.heap.size, 0, none⟩) s.size cap) s.data.toList) => laid_any _ s.data.toList p1 o1 la ca A W hS (by rw [← Lib.size_eq]; omega) HLA.out hla a1 (fun h => ⟨(HTA.out h).1, (HTA.out h).2.below hW⟩))
        have hl2 : (s.data.toList ++ laysE A).length ≤ 100000000 := by
          rw [List.length_append, ← Lib.size_eq]; have := laysE_length A; rw [HLA.out] at this; omega
        have HLDB := Lib.hid (fun (W : World) (v : Value) (hW : Below w.heap.size w W) (hS : Src W v (s.data.toList ++ laysE A)) => laid_any v (s.data.toList ++ laysE A) p2 o2 lb cb B W hS hl2 HLB.out hlb b1 (fun h => ⟨(HTB.out h).1, (HTB.out h).2.below hW⟩))
        have HQ := Lib.hid hQ
        have HS0 := Lib.hid hsrc0
        have HB0 := Lib.hid hB0
        clear hcap hb5 hbw hXA hXB hQ hk2 hsA hsB hl2 hR hRs hsrc0 hB0 hb6
        go_wp2_with fail
        go_region_with (first
          | (go_at_call_of 24 (Value.slice a1 la ca); refine (HLDA.out _ HB0.out HS0.out).mono ?_; rintro e w2 ⟨v2, rfl, hs2, hb2⟩; have hB2 := HB0.out.trans (hb2.mono HB0.out.size))
          | (go_at_call_of 24 (Value.slice b1 lb cb); refine (HLDB.out _ _ hB2 hs2).mono ?_; rintro e w3 ⟨v3, rfl, hs3, hb3⟩; have hB3 := hB2.trans (hb3.mono hB2.size); have hcv3 := run_str hs3; rw [← HQ.out] at hcv3)
          | (go_at_call_of 15 (Value.slice a1 la ca); refine (HLYA.out _ hB3).mono ?_; rintro e w4 ⟨rfl, hb4⟩; have hB4 := hB3.trans (hb4.mono hB3.size); have hcv4 := run_str (hs3.below hb4); rw [← HQ.out] at hcv4)
          | (go_at_call_of 15 (Value.slice b1 lb cb); refine (HLYB.out _ hB4).mono ?_; rintro e w5 ⟨rfl, hb5⟩; have hB5 := hB4.trans (hb5.mono hB4.size); have hcv5 := run_str ((hs3.below hb4).below hb5); rw [← HQ.out] at hcv5))
        all_goals (go_wp2_with fail; go_ret; exact ⟨rfl, hB5⟩)

set_option maxHeartbeats 1000000 in
theorem walk_long (a1 b1 : Option Addr) (la ca lb cb : Nat) (s : ByteArray) (w : World) (hl : 20 < la ∨ 20 < lb ∨ 100 < s.size) (ha : la ≤ maxLen) (hb : lb ≤ maxLen) (hs : s.size ≤ maxLen) :
    Calls Try.prog 7 #[.slice a1 la ca, .slice b1 lb cb, .string s] w fun e w' => e = .returned (.bool true) ∧ Below w.heap.size w w' := by
  unfold maxLen at ha hb hs
  by_cases h1 : 20 < la
  · have hd : decide ((20 : Int) < (la : Int)) = true := by simp; omega
    clear hl
    go_enter Try.func7, Try.ntmps7
    go_wp2_with (go_at_call 10; refine (head_any _).mono ?_; rintro e w1 ⟨rfl, hb⟩)
    go_ret
    exact ⟨rfl, hb⟩
  · have hd : decide ((20 : Int) < (la : Int)) = false := by simp; omega
    by_cases h2 : 20 < lb
    · have hd2 : decide ((20 : Int) < (lb : Int)) = true := by simp; omega
      clear hl
      go_enter Try.func7, Try.ntmps7
      go_wp2_with (go_at_call 10; refine (head_any _).mono ?_; rintro e w1 ⟨rfl, hb⟩)
      go_ret
      exact ⟨rfl, hb⟩
    · have hd2 : decide ((20 : Int) < (lb : Int)) = false := by simp; omega
      have hd3 : decide ((100 : Int) < (s.size : Int)) = true := by simp; omega
      clear hl
      go_enter Try.func7, Try.ntmps7
      go_wp2_with (go_at_call 10; refine (head_any _).mono ?_; rintro e w1 ⟨rfl, hb⟩)
      go_ret
      exact ⟨rfl, hb⟩

/-- The parts and what an append asks of their slice. -/
def IsParts2 (w : World) (a : Option Addr) (len cap : Nat) (ps : List Pt) : Prop :=
  IsParts w a len cap ps ∧ ((a = none ∧ len = 0 ∧ cap = 0) ∨ ∃ x, a = some x)
theorem parts_of2 {H : Type} {enc : TypeId × Value → H} {W : World} {base : Nat} {spare : Nat → Bool} {held : Bool} {a : Option Addr} {len cap : Nat} {d : DataW H} {p : List MemPlace}
    (h : DataW.Trod enc Try.prog W base spare held 22 (.slice a len cap) d p) : ∃ ps, IsParts2 W a len cap ps := by
  obtain ⟨ps, hp⟩ := parts_of h
  refine ⟨ps, hp, ?_⟩
  obtain ⟨fuel, hf⟩ := h
  obtain ⟨fs, g1, g2, g3, g4, f0, f1, f2⟩ := one_fields
  rcases open_slice_fields Try.underlying22 g1 g2 g3 hf with ⟨hcs, _⟩ | ⟨x, l, c, m, D, hcs, _⟩
  · simp [Value.cells] at hcs
    exact .inl hcs
  · simp [Value.cells] at hcs
    exact .inr ⟨x, hcs.1⟩
theorem srcp_of {w : World} {a : Option Addr} {len cap : Nat} {ps : List Pt} (h : IsParts2 w a len cap ps) : SrcP w a len cap ps := by
  obtain ⟨⟨h1, h2, h3⟩, h4⟩ := h
  rcases h4 with ⟨rfl, rfl, rfl⟩ | ⟨x, rfl⟩
  · exact .inl ⟨rfl, rfl, rfl, List.eq_nil_of_length_eq_zero h1⟩
  · refine .inr ⟨x, rfl, fun j u hu => ?_⟩
    have hj : j < ps.length * 3 := by
      have := (List.getElem?_eq_some_iff.1 hu).1
      rwa [pc_length] at this
    rcases h3 with h3 | ⟨b, off, hx, hb, hc⟩
    · omega
    · obtain rfl := Option.some.inj hx
      exact pc_news (len1 := ps.length) ⟨hb, hc⟩ rfl j u hu
theorem at_of {w : World} {a : Option Addr} {len cap : Nat} {ps : List Pt} (h : IsParts2 w a len cap ps) : ∃ p o, 0 < len → a = some ⟨p, o, none⟩ ∧ At w p o len ps := by
  obtain ⟨⟨h1, h2, h3⟩, _⟩ := h
  rcases h3 with h3 | ⟨b, off, hx, hb, hc⟩
  · exact ⟨0, 0, fun h => absurd h (by omega)⟩
  · exact ⟨b, off, fun _ => ⟨hx, hb, by rw [← h1]; exact hc⟩⟩
theorem texts_of {w : World} {a : Option Addr} {len cap : Nat} {ps : List Pt} (h : IsParts2 w a len cap ps) : ∀ p ∈ ps, p.s.size ≤ maxLen := by
  obtain ⟨⟨h1, h2, h3⟩, _⟩ := h
  intro p hp
  obtain ⟨i, hi, rfl⟩ := List.mem_iff_getElem.1 hp
  rcases h3 with h3 | ⟨b, off, hx, hb, hc⟩
  · omega
  · have := (hc i hi).2.2
    rwa [List.getD_eq_getElem?_getD, List.getElem?_eq_getElem hi] at this

theorem walk (a0 : Option Addr) (len0 cap0 : Nat) (z0 : List Pt) (a1 : Option Addr) (len1 cap1 : Nat) (z1 : List Pt) (s : ByteArray) (w : World) (w0 : IsParts2 w a0 len0 cap0 z0) (w1 : IsParts2 w a1 len1 cap1 z1) (w2 : s.size ≤ maxLen) :
    Calls Try.prog 7 #[.slice a0 len0 cap0, .slice a1 len1 cap1, .string s] w fun e w' => e = .returned (.bool true) ∧ Below w.heap.size w w' := by
  by_cases hl : 20 < len0 ∨ 20 < len1 ∨ 100 < s.size
  · exact walk_long a0 a1 len0 cap0 len1 cap1 s w hl w0.1.2.1 w1.1.2.1 w2
  · obtain ⟨p1, o1, t1⟩ := at_of w0
    obtain ⟨p2, o2, t2⟩ := at_of w1
    refine walk_some a0 a1 len0 cap0 len1 cap1 z0 z1 s w (by omega) (by omega) (by omega) w0.1.1 w1.1.1 (srcp_of w0) (srcp_of w1) (fun p hp => ?_) p1 o1 p2 o2 t1 t2
    rcases List.mem_append.1 hp with h | h
    · exact texts_of w0 p h
    · exact texts_of w1 p h

theorem own : ownKnob Try.prog.godebug = none := by kernel_rfl
theorem laidOut : laidOutB Try.prog = true := by kernel_rfl

set_option maxRecDepth 100000 in
theorem lifted (os : Os) (started : os.Started) (H : Type) (enc : TypeId × Value → H) :
    ReturnsInHanded {} Try.checked os 7 .any (Rows.pithJoinsSpec.pre6 enc Try.prog Try.f7 Rows.pithJoinsRow.domain false) (Rows.pithJoinsSpec.post enc Try.prog Try.f7 false true false false) := by
  refine returnsInHanded_of_change (C := Try.checked) own started (by kernel_rfl) Try.func7
    (ChangeSpec.witness6 (enc := enc) (C := Try.checked) false ⟨#[], #[.slice none 0 0, .slice none 0 0, .string ByteArray.empty], []⟩ 8 (by kernel_rfl) (by kernel_rfl) (by kernel_rfl) (by kernel_rfl)) ?_
  intro W base args ds gs before hval0 hW hcnd _
  have hval : ∀ (j : Nat) t v, Try.f7.params[j]? = some t → args[j]? = some v → Value.okWide Try.prog W .any base t v := hval0
  have hW' := hW
  obtain ⟨p, q, hA0, hV, rfl, hfz, hnd⟩ := hW
  have hA : DataW.TrodAll enc Try.prog W 0 (fun _ => true) true Try.f7.params.toList args.toList ds p := hA0
  rw [Try.params7] at hA hval
  obtain ⟨v0, vs0, d0, ds0, p0, q0, hargs, rfl, rfl, h0, r0⟩ := trodAll_cons hA
  obtain ⟨v1, vs1, d1, ds1, p1, q1, rfl, rfl, rfl, h1, r1⟩ := trodAll_cons r0
  obtain ⟨v2, vs2, d2, ds2, p2, q2, rfl, rfl, rfl, h2, r2⟩ := trodAll_cons r1
  obtain ⟨rfl, rfl, rfl⟩ := trodAll_nil r2
  obtain rfl : args = #[v0, v1, v2] := by cases args; simp_all
  obtain ⟨rfl, rfl⟩ := trodVars_none hV
  obtain ⟨a0, len0, cap0, rfl⟩ := okWide_slice Try.underlying22 (hval 0 22 v0 rfl rfl)
  have k0 := h0
  have lt0 : ∀ x ∈ p0, x.block < W.heap.size := by obtain ⟨m, hm⟩ := k0; exact DataW.trod_lt m _ _ _ hm
  obtain ⟨z0, w0⟩ := parts_of2 h0
  obtain ⟨a1, len1, cap1, rfl⟩ := okWide_slice Try.underlying22 (hval 1 22 v1 rfl rfl)
  have k1 := h1
  have lt1 : ∀ x ∈ p1, x.block < W.heap.size := by obtain ⟨m, hm⟩ := k1; exact DataW.trod_lt m _ _ _ hm
  obtain ⟨z1, w1⟩ := parts_of2 h1
  obtain ⟨a2, rfl, rfl, rfl, w2⟩ := open_string Try.underlying9 (hval 2 9 v2 rfl rfl) h2
  clear hA0 hval0
  refine (walk a0 len0 cap0 z0 a1 len1 cap1 z1 a2 W w0 w1 w2).mono fun e W' ⟨he, bel⟩ => ?_
  subst he
  exact ⟨_, rfl, _, _, _, [], _, [], hW', trodAll_mk1 (shut_bool Try.underlying4 _), (trodAll_cons_mk (Below.trod laidOut (by kernel_rfl) (of_decide_eq_true (by kernel_rfl)) k0 bel lt0) (trodAll_cons_mk (Below.trod laidOut (by kernel_rfl) (of_decide_eq_true (by kernel_rfl)) k1 bel lt1) (trodAll_cons_mk (shut_string Try.underlying9 w2) trodAll_mk0))), rfl, bel.frame _, fun h => by cases h⟩

theorem over : Rows.pithJoinsRow.holds Try.pinned (OpenSpec.ofChange Rows.pithJoinsSpec) :=
  OpenClaim.holds_of_wide 7 Try.f7 rfl rfl rfl rfl rfl rfl rfl ⟨rfl, rfl, rfl, rfl, rfl⟩ rfl rfl rfl rfl rfl (by kernel_rfl) Try.func7 (by kernel_rfl)
    (of_decide_eq_true (by kernel_rfl)) (by unfold Func.isWrapper; first | (rw [if_pos (by decide +kernel)]; kernel_rfl) | (rw [if_neg (by decide +kernel)]; exact ⟨rfl, rfl⟩))
    (fun os started H enc _ => lifted os started H enc)

theorem proved : Rows.PithJoinsSaid := over
end Go.Proofs.Ytefofhejaafgnaa.pithJoins
