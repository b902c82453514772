/- Lay of a table: its bytes. No conditions beyond those in each statement. -/
import Derived.Test.YtckengglamkaaaaSessAll
import Derived.Test.YtckengglamkaaaaPithTxt
namespace Go.Proofs.Ytckengglamkaaaa
open Go.RowKit Go.Maps Go.Sort
set_option linter.unusedVariables false
set_option maxRecDepth 100000

/-- A session's bytes; a table's. -/
def entE (id : Int) (s : Ss) : List UInt8 := (numE id ++ numE s.req) ++ textE s.ans.data.toList
def layE (T : Int → Option Ss) (zs : List Int) : List UInt8 := numE (zs.length : Int) ++ zs.flatMap fun id => entE id ((T id).getD Ss.zero)
theorem entE_len (id : Int) (s : Ss) : (entE id s).length ≤ 65549 := by
  have := textE_length s.ans.data.toList
  unfold entE; simp [numE_length]; omega
theorem ents_len (T : Int → Option Ss) : ∀ zs : List Int, (zs.flatMap fun id => entE id ((T id).getD Ss.zero)).length ≤ 65549 * zs.length
  | [] => by simp
  | z :: l => by
    have h1 := ents_len T l
    have h2 := entE_len z ((T z).getD Ss.zero)
    rw [List.flatMap_cons, List.length_append, List.length_cons]; omega
theorem ents_snoc (T : Int → Option Ss) (zs : List Int) (k : Nat) (h : k < zs.length) : ((zs.take (k + 1)).flatMap fun id => entE id ((T id).getD Ss.zero)) = ((zs.take k).flatMap fun id => entE id ((T id).getD Ss.zero)) ++ entE (zs.getD k 0) ((T (zs.getD k 0)).getD Ss.zero) := by
  rw [take_snoc_getD zs 0 k h, List.flatMap_append]; simp
theorem row_form {w : World} {base n : Nat} {e : TypeId} {size : Nat} {v : Value} {xs : List Value} (h : w.ownsRow base e size v n xs) : ∃ a c, v = .slice a n c ∧ (0 < n → ∃ g, a = some ⟨g, 0, none⟩) := by
  rcases h.2 with ⟨h1, h2⟩ | ⟨g, c, cur, h1, _⟩
  · exact ⟨none, 0, by rw [h1, h2], fun h => by omega⟩
  · exact ⟨_, _, h1, fun _ => ⟨g, rfl⟩⟩
theorem Bs.cut {w : World} {B : Nat} {v : Value} {l : List UInt8} (h : Bs w B v l) (h0 : 0 < l.length) : ∃ g c, v = .slice (some ⟨g, 0, none⟩) l.length c ∧ ∀ j u, (cellsOf l)[j]? = some u → w.cell? (Addr.add ⟨g, 0, none⟩ j) = some u := by
  obtain ⟨p, cap, hv, h1⟩ := h.src
  rcases h1 with ⟨_, hl, _⟩ | ⟨a, ha, hc⟩
  · rw [hl] at h0; simp at h0
  · rcases h.2 with ⟨_, h2⟩ | ⟨g, c, cur, h2, _⟩
    · omega
    · rw [hv] at h2
      injection h2 with e1 e2 e3
      rw [ha] at e1
      obtain rfl : a = ⟨g, 0, none⟩ := Option.some.inj e1
      exact ⟨g, cap, by rw [hv, ha], hc⟩
theorem cell_new2 (w : World) (x y : Value) (t : TypeId) : (w.alloc (.cells #[x, y] t)).cell? ⟨w.heap.size, 0, none⟩ = some x ∧ (w.alloc (.cells #[x, y] t)).cell? ⟨w.heap.size, 0 + 1, none⟩ = some y := by
  have h := heap_alloc_new w (.cells #[x, y] t)
  generalize w.alloc (.cells #[x, y] t) = W at h
  simp [World.cell?, h]
theorem Bs.app {w : World} {B n m : Nat} {v : Value} {l k : List UInt8} (h : w.ownsRow B 5 1 v (n + m) (cellsOf l ++ cellsOf k)) (h1 : n = l.length) (h2 : m = k.length) : Bs w B v (l ++ k) := by
  unfold Bs; rw [cellsOf_append, List.length_append, ← h1, ← h2]; exact h
set_option maxHeartbeats 8000000 in
theorem lay_any (tb mb k c : Nat) (T : Int → Option Ss) (w : World) (h : TbW w tb mb k c T) (hc : c ≤ 1000) (hT : ∀ x s, T x = some s → InR s.req ∧ s.ans.size ≤ 100000) :
    Calls Try.prog 22 #[.pointer (some ⟨tb, 0, none⟩), .slice none 0 0] w fun e w' => ∃ v zs, e = .returned v ∧ IdsOf T c zs ∧ Bs w' w.heap.size v (layE T zs) ∧ Below w.heap.size w w' := by
  have HA := Lib.hid (all_any tb mb k c T w h hc)
  have HH := Lib.hid h
  have HTT := Lib.hid hT
  obtain ⟨i1, hi1, hz1, hz2, hz3⟩ := info_parts info_u8
  clear h hT
  go_enter Try.func22, Try.ntmps22
  go_wp2_with fail
  refine HA.out.mono ?_
  rintro e w1 ⟨v, zs, rfl, hI, hrow, b1⟩
  obtain ⟨a, ca, rfl, ha⟩ := row_form hrow
  have hzl : zs.length ≤ 1000 := by rw [hI.len]; exact hc
  have HI := Lib.hid hI
  have HCL : Hid (∀ W : World, Below w1.heap.size w1 W → ∀ j, j < zs.length → ∃ g, a = some ⟨g, 0, none⟩ ∧ W.cell? ⟨g, j, none⟩ = some (.int .i64 (zs.getD j 0))) := Lib.hid (fun W hW j hj => by
    obtain ⟨g, rfl⟩ := ha (by omega)
    have h1 := hrow.cellAt j (by omega)
    have hg : g < w1.heap.size := (hrow.lt g rfl).2
    refine ⟨g, rfl, (hW.cell (p := ⟨g, j, none⟩) hg).trans (h1.trans ?_)⟩
    simp [List.getD_eq_getElem?_getD, hj, encZ])
  clear hI hrow
  go_upto_region 2 with fail
  have HNUM := Lib.hid (num_one (.slice none 0 0) [] (zs.length : Int) w1 (Src.nil w1) (by simp) (by omega))
  go_wp2_with fail
  refine HNUM.out.mono ?_
  rintro e w3 ⟨v3, rfl, B3, b3⟩
  have B3' : Bs w3 w1.heap.size v3 (numE (zs.length : Int) ++ ((zs.take 0).flatMap fun id => entE id ((T id).getD Ss.zero))) := by simpa using B3
  have H1 := Lib.hid (HH.out.below b1)
  clear HNUM B3 HA
  go_wp2_with fail
  go_loopw [6, 19] (fun ov iv wr => ∃ j : Nat, j ≤ zs.length ∧ iv = .int .i64 j ∧ Bs wr w1.heap.size ov (numE (zs.length : Int) ++ ((zs.take j).flatMap fun id => entE id ((T id).getD Ss.zero))) ∧ Below w1.heap.size w1 wr) (fun _ iv _ => zs.length - (intOf iv).toNat)
  case atStart => exact ⟨0, by omega, rfl, B3', b3⟩
  case round =>
    obtain ⟨j, hj, rfl, HB, bk⟩ := hrel
    clear B3' b3
    by_cases hlt : j < zs.length
    · have hlt2 : decide ((j : Int) < (zs.length : Int)) = true := by simp; omega
      obtain ⟨g, rfl, hcj⟩ := HCL.out _ bk j hlt
      have t2 : IntKind.i64.wrap ((j : Int) + 1) = (j : Int) + 1 := IntWalk.i64_in _ (by omega)
      have hj0 : (0 : Int) ≤ (j : Int) := by omega
      have hji : (j : Int) < (zs.length : Int) := by omega
      have HSN := Lib.hid (ents_snoc T zs j hlt)
      have hEL := ents_len T (zs.take j)
      have hmem : zs.getD j 0 ∈ zs := by rw [List.getD_eq_getElem?_getD, List.getElem?_eq_getElem hlt]; exact List.getElem_mem hlt
      obtain ⟨id, hid⟩ : ∃ id, id = zs.getD j 0 := ⟨_, rfl⟩
      rw [← hid] at hcj hmem HSN
      obtain ⟨s, hs⟩ := Option.isSome_iff_exists.1 ((HI.out.mem id).1 hmem)
      rw [hs] at HSN
      obtain ⟨hrq, hsz⟩ := HTT.out id s hs
      have hir : InR id := HH.out.map.1 id (by rw [hs]; rfl)
      have H2 := H1.out.below bk
      have hcell := H2.cell
      have hl := H2.map.look id hir
      rw [hs] at hl
      simp only [Option.getD_some, ssV] at hl
      obtain ⟨E0, hE0⟩ : ∃ E0, E0 = numE (zs.length : Int) ++ ((zs.take j).flatMap fun id => entE id ((T id).getD Ss.zero)) := ⟨_, rfl⟩
      have hE0l : E0.length ≤ 100000000 := by
        rw [hE0, List.length_append, numE_length]; rw [List.length_take] at hEL; omega
      have hE00 : 0 < E0.length := by rw [hE0, List.length_append, numE_length]; omega
      rw [← hE0] at HB
      have HE0 := Lib.hid hE0
      obtain ⟨g5, c5, hv5, _⟩ := HB.cut hE00
      subst hv5
      have hg5 : g5 < wr.heap.size := (HB.lt g5 rfl).2
      have hgb : w1.heap.size ≤ g5 := (HB.lt g5 rfl).1
      clear hid hmem hs hE0 H2 hEL
      have bA := bk.alloc bk.size (.cells #[.int .i64 s.req, .string s.ans] 65)
      have RA := HB.below ((Below.refl _ wr).alloc (Nat.le_refl _) (.cells #[.int .i64 s.req, .string s.ans] 65))
      have N6 := ssB_new wr s
      go_upto_region 7 with fail
      obtain ⟨w6, hw6⟩ : ∃ w6, w6 = wr.alloc (.cells #[.int .i64 s.req, .string s.ans] 65) := ⟨_, rfl⟩
      rw [← hw6] at bA RA N6 ⊢
      have hlr : wr.heap.size < w6.heap.size := (Array.getElem?_eq_some_iff.1 N6).1
      obtain ⟨x0, x1⟩ := ssB_cells N6
      have hBL := (Below.refl _ w6).alloc (Nat.le_refl _) (.cells #[.int .i64 id, .int .i64 s.req] 3)
      obtain ⟨hn0, hn1⟩ := cell_new2 w6 (.int .i64 id) (.int .i64 s.req) 3
      have HNM := Lib.hid (num_list (.slice none 0 0) [] w6.heap.size 0 2 [id, s.req] (w6.alloc (.cells #[.int .i64 id, .int .i64 s.req] 3)) (Src.nil _) (by simp) (by simp)
        (fun q hq => by
          match q, hq with
          | 0, _ => exact hir
          | 1, _ => exact hrq)
        (fun q hq => by
          match q, hq with
          | 0, _ => exact hn0
          | 1, _ => exact hn1))
      have HRA := Lib.hid RA
      have HN6 := Lib.hid N6
      clear hw6 hcj hcell hl HB RA hn0 hn1 N6 bk
      go_wp2_with fail
      refine HNM.out.mono ?_
      rintro e w7 ⟨v7, rfl, B7, b7⟩
      rw [List.nil_append] at B7
      have b67 := hBL.trans (b7.mono hBL.size)
      have R7 := HRA.out.below b67
      have N7 := (b67.block wr.heap.size hlr).trans HN6.out
      have bB := bA.trans (b67.mono bA.size)
      obtain ⟨g7, c7, rfl, hc7⟩ := B7.cut (by rw [numsE_length]; simp)
      have hl7 : (numsE [id, s.req]).length = 12 := by rw [numsE_length]; rfl
      rw [hl7]
      have HR7 := Lib.hid R7
      have HC7 := Lib.hid hc7
      have HN7 := Lib.hid N7
      have hw7s : wr.heap.size < w7.heap.size := (Array.getElem?_eq_some_iff.1 N7).1
      clear HNM B7 b7 b67 R7 N7 hc7 HRA HN6 hBL bA x0 x1
      go_upto_region 8 with (at_builtin; refine wpList_append_own _ rfl _ _ _ rfl w1.heap.size 5 i1 _ 1 1 und_bytes hi1 hz1 hz2 hz3 rfl (by decide) (.slice (some ⟨g5, 0, none⟩) E0.length c5) E0.length (cellsOf E0) rfl HR7.out ⟨g7, 0, none⟩ 12 c7 (cellsOf (numsE [id, s.req])) rfl (by rw [cellsOf_length, hl7]) HC7.out (cellsOf_one _) (by unfold maxLen; omega) (by omega) bB.size ?_; intro v8 w8 hown8 hgrow8 hiff8; go_frame)
      have B8 : Bs w8 w1.heap.size v8 (E0 ++ numsE [id, s.req]) := Bs.app hown8 rfl hl7.symm
      have N8 := (hgrow8.block wr.heap.size hw7s (by simp [Value.ownBlock]; omega)).trans HN7.out
      obtain ⟨_, x1⟩ := ssB_cells N8
      have b8 := bB.grown hgrow8 bB.size (fun q hq => by simp [Value.ownBlock] at hq; omega)
      have hE1l : (E0 ++ numsE [id, s.req]).length = E0.length + 12 := by rw [List.length_append, hl7]
      obtain ⟨g8, c8, hv8, _⟩ := B8.cut (by omega)
      subst hv8
      have HTX := Lib.hid (text_one (.slice none 0 0) [] s.ans w8 (Src.nil _) (by simp) (by unfold maxLen; omega))
      have hgb8 : w1.heap.size ≤ g8 := (B8.lt g8 rfl).1
      have HB8 := Lib.hid B8
      clear hown8 hgrow8 hiff8 HR7 HC7 HN7 bB B8 N8
      go_wp2_with fail
      refine HTX.out.mono ?_
      rintro e w9 ⟨v9, rfl, B9, b9⟩
      rw [List.nil_append] at B9
      have R9 := HB8.out.below b9
      have bC := b8.trans (b9.mono b8.size)
      have ht9 : 0 < (textE s.ans.data.toList).length := by unfold textE; simp [be_length]; omega
      have ht9b := textE_length s.ans.data.toList
      obtain ⟨g9, c9, rfl, hc9⟩ := B9.cut ht9
      obtain ⟨m9, hm9⟩ : ∃ m9, m9 = (textE s.ans.data.toList).length := ⟨_, rfl⟩
      rw [← hm9] at ht9b ⊢
      have HR9 := Lib.hid R9
      have HC9 := Lib.hid hc9
      have HM9 := Lib.hid hm9
      rw [hE1l] at R9
      clear HTX B9 b9 b8 R9 HB8 hc9 x1 hm9 ht9
      rw [hE1l]
      go_wp2_with (at_builtin; refine wpList_append_own _ rfl _ _ _ rfl w1.heap.size 5 i1 _ 1 1 und_bytes hi1 hz1 hz2 hz3 rfl (by decide) (.slice (some ⟨g8, 0, none⟩) (E0.length + 12) c8) (E0.length + 12) (cellsOf (E0 ++ numsE [id, s.req])) rfl (by have := HR9.out; unfold Bs at this; rw [hE1l] at this; exact this) ⟨g9, 0, none⟩ m9 c9 (cellsOf (textE s.ans.data.toList)) rfl (by rw [cellsOf_length, HM9.out]; omega) HC9.out (cellsOf_one _) (by unfold maxLen; omega) (by omega) bC.size ?_; intro v10 w10 hown10 hgrow10 hiff10; go_frame)
      have B10 : Bs w10 w1.heap.size v10 ((E0 ++ numsE [id, s.req]) ++ textE s.ans.data.toList) := Bs.app hown10 hE1l.symm HM9.out
      have b10 := bC.grown hgrow10 bC.size (fun q hq => by simp [Value.ownBlock] at hq; omega)
      have hEE : numE (zs.length : Int) ++ ((zs.take (j + 1)).flatMap fun id => entE id ((T id).getD Ss.zero)) = (E0 ++ numsE [id, s.req]) ++ textE s.ans.data.toList := by
        rw [HSN.out, HE0.out]; unfold entE numsE; simp
      have HB10 := Lib.hid B10
      clear hown10 hgrow10 hiff10 HR9 HC9 bC B10
      go_wp2_with fail
      go_roundw
      case rel => exact ⟨j + 1, by omega, by go_num, by rw [hEE]; exact HB10.out, b10⟩
      case measure => simp [intOf]; omega
    · obtain rfl : j = zs.length := by omega
      have hlt2 : decide ((zs.length : Int) < (zs.length : Int)) = false := by simp
      rw [List.take_length] at HB
      go_wp2_with fail
      go_ret
      exact ⟨_, zs, rfl, HI.out, HB.mono b1.size, b1.trans (bk.mono b1.size)⟩
end Go.Proofs.Ytckengglamkaaaa
