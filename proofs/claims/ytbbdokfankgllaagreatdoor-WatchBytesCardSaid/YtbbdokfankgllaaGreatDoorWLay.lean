/- Lay of a book: its bytes. No conditions beyond those in each statement. -/
import Derived.Test.YtbbdokfankgllaaGreatDoorWKeys
import Derived.Test.YtbbdokfankgllaaGreatDoorWRdW
import Derived.Deep.DeepCutAuto
namespace Go.Proofs.YtbbdokfankgllaaGreatDoor
open Go.RowKit Go.Maps Go.Sort
set_option linter.unusedVariables false
set_option linter.unusedSimpArgs false
set_option maxRecDepth 100000

theorem Bs.app {w : World} {B n m : Nat} {v : Value} {l k : List UInt8} (h : w.ownsRow B 5 1 v (n + m) (cellsOf l ++ cellsOf k)) (h1 : n = l.length) (h2 : m = k.length) : Bs w B v (l ++ k) := by
  unfold Bs; rw [cellsOf_append, List.length_append, ← h1, ← h2]; exact h
theorem Bs.neB {w : World} {B n c g b : Nat} {l : List UInt8} {cs : Array Value} {t : TypeId} (h : Bs w B (.slice (some ⟨g, 0, none⟩) n c) l) (hb : w.heap[b]? = some (.cells cs t (0, 0))) (ht : t ≠ 5) : b ≠ g := by
  obtain ⟨cur, h1, _⟩ := row_own h rfl
  exact cells_ne hb h1 ht
theorem waE_three (x : Wa) : waE x = numsE [x.ses] ++ (textsE [x.path] ++ flagsE [x.kids, x.once]) := by unfold waE numsE textsE flagsE; simp
theorem evE_three (x : Ev) : evE x = numsE [x.ses, x.no] ++ (textsE [x.path] ++ numsE [x.what, x.when]) := by unfold evE numsE textsE; simp
theorem waE_len (x : Wa) : (waE x).length ≤ 65600 := by
  have h1 := textE_length x.path.data.toList
  unfold waE flagE; simp only [List.length_append, numE_length, List.length_cons, List.length_nil]; omega
theorem evE_len (x : Ev) : (evE x).length ≤ 65600 := by
  have h1 := textE_length x.path.data.toList
  unfold evE; simp only [List.length_append, numE_length]; omega
theorem flat_len {α : Type} {f : α → List UInt8} (hf : ∀ x, (f x).length ≤ 65600) : ∀ L : List α, (L.flatMap f).length ≤ 65600 * L.length
  | [] => by simp
  | z :: l => by
    have h1 := flat_len hf l
    have h2 := hf z
    rw [List.flatMap_cons, List.length_append, List.length_cons]; omega
theorem flat_snoc {α : Type} (f : α → List UInt8) {L : List α} {k : Nat} {x : α} (h : L[k]? = some x) : (L.take (k + 1)).flatMap f = (L.take k).flatMap f ++ f x := by
  obtain ⟨h1, h2⟩ := List.getElem?_eq_some_iff.1 h
  rw [List.take_succ_eq_append_getElem h1, List.flatMap_append, h2]; simp
def KRow (w : World) (base : Nat) (a : Option Addr) (ca : Nat) (zs : List Int) : Prop := w.ownsRow base 3 1 (.slice a zs.length ca) zs.length (zs.map encZ)
theorem KRow.grown {w w' : World} {base ca g n : Nat} {L : List Int} (h : KRow w base (some ⟨g, 0, none⟩) ca L) (hne : g ≠ n) (hg : w.grownBy w' (some n)) : KRow w' base (some ⟨g, 0, none⟩) ca L :=
  World.ownsRow.kept h hg (.inr (by simp [Value.ownBlock]; omega))
theorem KRow.low {w w' : World} {base ca : Nat} {a : Option Addr} {L : List Int} (h : KRow w base a ca L) (hb : Below w.heap.size w w') : KRow w' base a ca L := by
  refine World.ownsRow.kept h (⟨hb.os, hb.tape, hb.output, hb.size, fun i hi _ => hb.block i hi⟩ : w.grownBy w' none) (by
    cases e : (Value.slice a L.length ca).ownBlock with
    | none => exact .inl rfl
    | some j => right; intro e2; cases e2)
theorem KRow.at {w : World} {base ca g : Nat} {L : List Int} (h : KRow w base (some ⟨g, 0, none⟩) ca L) {j : Nat} {z : Int} (hz : L[j]? = some z) : w.cell? ⟨g, j, none⟩ = some (.int .i64 z) := by
  have hj := (List.getElem?_eq_some_iff.1 hz).1
  refine (World.ownsRow.cellAt h j (by omega)).trans ?_
  simp [hz, encZ]
def lsZ (N : Int → Option Int) (z : Int) : List UInt8 := numsE [z, (N z).getD 0]
theorem lsZ_len (N : Int → Option Int) (z : Int) : (lsZ N z).length ≤ 65600 := by unfold lsZ; rw [numsE_length]; simp
def layN (Ws : List Wa) (Es : List Ev) (N : Int → Option Int) (zs : List Int) : List UInt8 := ((((numsE [(Ws.length : Int)] ++ Ws.flatMap waE) ++ numsE [(Es.length : Int)]) ++ Es.flatMap evE) ++ numsE [(zs.length : Int)]) ++ zs.flatMap (lsZ N)
structure LayOk (Ws : List Wa) (Es : List Ev) (N : Int → Option Int) : Prop where
  ws : ∀ x ∈ Ws, InR x.ses ∧ x.path.size ≤ 100000
  es : ∀ x ∈ Es, InR x.ses ∧ InR x.no ∧ x.path.size ≤ 100000 ∧ InR x.what ∧ InR x.when
  ls : ∀ z v, N z = some v → InR z ∧ InR v
set_option maxHeartbeats 32000000 in
theorem blay_any (base bb : Nat) (vw ve vm : Value) (Ws : List Wa) (Es : List Ev) (k c : Nat) (N : Int → Option Int) (w : World) (h : BkW w base bb vw ve vm Ws Es k c N) (hL : LayOk Ws Es N) (lw : Ws.length ≤ 1000) (le : Es.length ≤ 2000) (lc : c ≤ 2000) :
    Calls Tryz.prog 8 #[.pointer (some ⟨bb, 0, none⟩), .slice none 0 0] w fun e w' => ∃ v zs, e = .returned v ∧ IdsOf N c zs ∧ Bs w' w.heap.size v (layN Ws Es N zs) ∧ Below w.heap.size w w' := by
  obtain ⟨i1, hi1, hz1, hz2, hz3⟩ := info_parts info_u8
  obtain ⟨wa, wc, rfl, hwa, _⟩ := waV_form h.ws
  obtain ⟨ea, ec, rfl, hea, _⟩ := evV_form h.es
  have HWA := Lib.hid hwa
  have HEA := Lib.hid hea
  have HH := Lib.hid h
  have HLO := Lib.hid hL
  have hbb := h.lt
  have x0 := h.c0
  have HX1 : Hid (∀ W : World, Below w.heap.size w W → W.cell? ⟨bb, 1, none⟩ = some (.slice ea Es.length ec)) := Lib.hid (fun W hW => (h.below hW).c1)
  have HX2 : Hid (∀ W : World, Below w.heap.size w W → W.cell? ⟨bb, 2, none⟩ = some vm) := Lib.hid (fun W hW => (h.below hW).c2)
  have HX0 : Hid (∀ W : World, Below w.heap.size w W → W.cell? ⟨bb, 0, none⟩ = some (.slice wa Ws.length wc)) := Lib.hid (fun W hW => (h.below hW).c0)
  clear h hL hwa hea
  have hBL1 := (Below.refl _ w).alloc (Nat.le_refl _) (.cells #[.int .i64 (Ws.length : Int)] 3)
  have HNM1 := Lib.hid (num_list (.slice none 0 0) [] w.heap.size 0 1 [(Ws.length : Int)] (w.alloc (.cells #[.int .i64 (Ws.length : Int)] 3)) (Src.nil _) (by simp) (by simp) (fun q hq => by
        match q, hq with
        | 0, _ => show InR (Ws.length : Int); unfold InR; omega
      ) (fun q hq => by
        match q, hq with
        | 0, _ => exact cells_new rfl
      ))
  go_enter Tryz.func8, Tryz.ntmps8
  go_wp2_with fail
  refine HNM1.out.mono ?_
  rintro e w1 ⟨v1, rfl, B1, b1⟩
  rw [List.nil_append] at B1
  have bX1 := hBL1.trans (b1.mono hBL1.size)
  have HB1 := Lib.hid (B1.mono hBL1.size)
  have HL1 := Lib.hid bX1
  replace x0 := HX0.out w1 bX1
  clear HNM1 B1 b1 bX1 hBL1
  go_wp2_with fail
  go_loopw [1, 29] (fun ov iv wr => ∃ j : Nat, j ≤ Ws.length ∧ iv = .int .i64 j ∧ Hid (Bs wr w.heap.size ov (numsE [(Ws.length : Int)] ++ (Ws.take j).flatMap waE)) ∧ Hid (Below w.heap.size w wr)) (fun _ iv _ => Ws.length - (intOf iv).toNat)
  case atStart => exact ⟨0, by omega, rfl, Lib.hid (by simpa using HB1.out), HL1⟩
  case round =>
    obtain ⟨j, hj, rfl, HB, HBEL⟩ := hrel
    clear HB1 HL1
    by_cases hlt : j < Ws.length
    · have hlt2 : decide ((j : Int) < (Ws.length : Int)) = true := by simp; omega
      obtain ⟨x, hx⟩ : ∃ x, Ws[j]? = some x := ⟨Ws[j], by simp [hlt]⟩
      obtain ⟨g, rfl, hgw, _⟩ := HWA.out (by omega)
      have hrw := (HH.out.below HBEL.out).ws
      have y0 := waC0 hrw hx rfl
      have y1 := waC1 hrw hx rfl
      have y2 := waC2 hrw hx rfl
      have y3 := waC3 hrw hx rfl
      have hj0 : (0 : Int) ≤ (j : Int) := by omega
      have hji : (j : Int) < (Ws.length : Int) := by omega
      have t2 : IntKind.i64.wrap ((j : Int) + 1) = (j : Int) + 1 := IntWalk.i64_in _ (by omega)
      obtain ⟨r1, r2⟩ := HLO.out.ws x (List.mem_of_getElem? hx)
      have HSN := Lib.hid (flat_snoc waE hx)
      have hEL := flat_len waE_len (Ws.take j)
      obtain ⟨E0, hE0⟩ : ∃ E0, E0 = numsE [(Ws.length : Int)] ++ (Ws.take j).flatMap waE := ⟨_, rfl⟩
      have hEl : 0 < E0.length ∧ E0.length ≤ 70000000 := by
        rw [hE0, List.length_append, numsE_length]; rw [List.length_take] at hEL; simp only [List.length_cons, List.length_nil]; omega
      rw [← hE0] at HB
      have HE0 := Lib.hid hE0
      obtain ⟨gE, cE, hv0, _⟩ := HB.out.cut hEl.1
      subst hv0
      clear hrw hx hE0 hEL x0
      go_upto_region 7 with fail
      have NA : WaB (wr.alloc (.cells #[.int .i64 x.ses, .string x.path, .bool x.kids, .bool x.once] 49)) wr.heap.size x := heap_alloc_new wr _
      have bA := (Below.refl wr.heap.size wr).alloc (Nat.le_refl _) (.cells #[.int .i64 x.ses, .string x.path, .bool x.kids, .bool x.once] 49)
      obtain ⟨w5, hw5⟩ : ∃ w5, w5 = wr.alloc (.cells #[.int .i64 x.ses, .string x.path, .bool x.kids, .bool x.once] 49) := ⟨_, rfl⟩
      obtain ⟨xb, hxb⟩ : ∃ xb, xb = wr.heap.size := ⟨_, rfl⟩
      rw [← hw5] at NA bA ⊢
      rw [← hxb] at NA ⊢
      have HB5 := Lib.hid (HB.out.below bA)
      have HBEL5 := Lib.hid (HBEL.out.trans (bA.mono HBEL.out.size))
      have SX := Lib.hid NA
      obtain ⟨q0, q1, q2, q3⟩ := NA.cells
      clear HB HBEL NA bA hw5 hxb y0 y1 y2 y3
      have hBL2 := (Below.refl _ w5).alloc (Nat.le_refl _) (.cells #[.int .i64 x.ses] 3)
      have HNM2 := Lib.hid (num_list (.slice none 0 0) [] w5.heap.size 0 1 [x.ses] (w5.alloc (.cells #[.int .i64 x.ses] 3)) (Src.nil _) (by simp) (by simp) (fun q hq => by
                match q, hq with
                | 0, _ => exact r1
              ) (fun q hq => by
                match q, hq with
                | 0, _ => exact cells_new rfl
              ))
      clear q1 q2 q3
      go_wp2_with fail
      refine HNM2.out.mono ?_
      rintro e wA2 ⟨vA2, rfl, BA2, bA2⟩
      rw [List.nil_append] at BA2
      have bX2 := hBL2.trans (bA2.mono hBL2.size)
      have RA2 := HB5.out.below bX2
      have bB2 := HBEL5.out.trans (bX2.mono HBEL5.out.size)
      have SXA2 := SX.out.below bX2
      have hpl2 : 0 < (numsE [x.ses]).length ∧ (numsE [x.ses]).length ≤ 70000 := by rw [numsE_length]; simp
      obtain ⟨gA2, cA2, rfl, hcA2⟩ := BA2.cut hpl2.1
      obtain ⟨m2, hm2⟩ : ∃ m, m = (numsE [x.ses]).length := ⟨_, rfl⟩
      rw [← hm2] at hpl2 ⊢
      have HM2 := Lib.hid hm2
      have HRA2 := Lib.hid RA2
      have HCA2 := Lib.hid hcA2
      have hgb2 : w.heap.size ≤ gE := (RA2.lt gE rfl).1
      have HBB2 := Lib.hid bB2
      have SXN2 := Lib.hid (RA2.neB SXA2 (by decide))
      have SXH2 := Lib.hid SXA2
      clear HNM2 BA2 bA2 bX2 RA2 hcA2 hm2 hBL2 bB2 SXA2
      go_upto_region 8 with (at_builtin; refine wpList_append_own _ rfl _ _ _ rfl w.heap.size 5 i1 _ 1 1 und_bytes hi1 hz1 hz2 hz3 rfl (by decide) (.slice (some ⟨gE, 0, none⟩) E0.length cE) E0.length (cellsOf E0) rfl HRA2.out ⟨gA2, 0, none⟩ m2 cA2 (cellsOf (numsE [x.ses])) rfl (by rw [cellsOf_length, HM2.out]; omega) HCA2.out (cellsOf_one _) (by unfold maxLen; omega) (by omega) HBB2.out.size ?_; intro v2 wB2 hown2 hgrow2 hiff2; go_frame)
      have BB2 : Bs wB2 w.heap.size v2 (E0 ++ numsE [x.ses]) := Bs.app hown2 rfl HM2.out
      have HBEL2 := Lib.hid (HBB2.out.grown hgrow2 HBB2.out.size (fun q hq => by simp [Value.ownBlock] at hq; omega))
      have SXB2 : Hid (WaB wB2 xb x) := Lib.hid ((hgrow2.block _ SXH2.out.lt (by simp [Value.ownBlock]; exact SXN2.out)).trans SXH2.out)
      obtain ⟨E1, hE2⟩ : ∃ E', E' = E0 ++ numsE [x.ses] := ⟨_, rfl⟩
      rw [← hE2] at BB2
      have hEl2 : 0 < E1.length ∧ E1.length ≤ 70100000 := by rw [hE2, List.length_append, ← HM2.out]; omega
      obtain ⟨g2, c2, hv2, _⟩ := BB2.cut hEl2.1
      subst hv2
      have HE2 := Lib.hid hE2
      have HB2 := Lib.hid BB2
      clear hE2 BB2 hown2 hgrow2 hiff2 HRA2 HCA2 HBB2 HM2 hpl2 hgb2 SXH2 SXN2
      clear q0 HB5 HBEL5 SX
      obtain ⟨q0, q1, q2, q3⟩ := SXB2.out.cells
      have SX2 := SXB2
      clear SXB2
      have hBL3 := (Below.refl _ wB2).alloc (Nat.le_refl _) (.cells #[.string x.path] 9)
      have HNM3 := Lib.hid (text_list (.slice none 0 0) [] wB2.heap.size 0 1 [x.path] (wB2.alloc (.cells #[.string x.path] 9)) (Src.nil _) (by simp) (by simp) (fun q hq => by
                match q, hq with
                | 0, _ => show x.path.size ≤ maxLen; unfold maxLen; omega
              ) (fun q hq => by
                match q, hq with
                | 0, _ => exact cells_new rfl
              ))
      clear q0 q2 q3
      go_wp2_with fail
      refine HNM3.out.mono ?_
      rintro e wA3 ⟨vA3, rfl, BA3, bA3⟩
      rw [List.nil_append] at BA3
      have bX3 := hBL3.trans (bA3.mono hBL3.size)
      have RA3 := HB2.out.below bX3
      have bB3 := HBEL2.out.trans (bX3.mono HBEL2.out.size)
      have SX2A3 := SX2.out.below bX3
      have hpl3 : 0 < (textsE [x.path]).length ∧ (textsE [x.path]).length ≤ 70000 := by have := textsE_length [x.path]; simp only [List.length_cons, List.length_nil] at this; have : 0 < (textsE [x.path]).length := (by unfold textsE textE; simp [be_length]; omega); omega
      obtain ⟨gA3, cA3, rfl, hcA3⟩ := BA3.cut hpl3.1
      obtain ⟨m3, hm3⟩ : ∃ m, m = (textsE [x.path]).length := ⟨_, rfl⟩
      rw [← hm3] at hpl3 ⊢
      have HM3 := Lib.hid hm3
      have HRA3 := Lib.hid RA3
      have HCA3 := Lib.hid hcA3
      have hgb3 : w.heap.size ≤ g2 := (RA3.lt g2 rfl).1
      have HBB3 := Lib.hid bB3
      have SX2N3 := Lib.hid (RA3.neB SX2A3 (by decide))
      have SX2H3 := Lib.hid SX2A3
      clear HNM3 BA3 bA3 bX3 RA3 hcA3 hm3 hBL3 bB3 SX2A3
      go_upto_region 9 with (at_builtin; refine wpList_append_own _ rfl _ _ _ rfl w.heap.size 5 i1 _ 1 1 und_bytes hi1 hz1 hz2 hz3 rfl (by decide) (.slice (some ⟨g2, 0, none⟩) E1.length c2) E1.length (cellsOf E1) rfl HRA3.out ⟨gA3, 0, none⟩ m3 cA3 (cellsOf (textsE [x.path])) rfl (by rw [cellsOf_length, HM3.out]; omega) HCA3.out (cellsOf_one _) (by unfold maxLen; omega) (by omega) HBB3.out.size ?_; intro v3 wB3 hown3 hgrow3 hiff3; go_frame)
      have BB3 : Bs wB3 w.heap.size v3 (E1 ++ textsE [x.path]) := Bs.app hown3 rfl HM3.out
      have HBEL3 := Lib.hid (HBB3.out.grown hgrow3 HBB3.out.size (fun q hq => by simp [Value.ownBlock] at hq; omega))
      have SX2B3 : Hid (WaB wB3 xb x) := Lib.hid ((hgrow3.block _ SX2H3.out.lt (by simp [Value.ownBlock]; exact SX2N3.out)).trans SX2H3.out)
      obtain ⟨E2, hE3⟩ : ∃ E', E' = E1 ++ textsE [x.path] := ⟨_, rfl⟩
      rw [← hE3] at BB3
      have hEl3 : 0 < E2.length ∧ E2.length ≤ 70200000 := by rw [hE3, List.length_append, ← HM3.out]; omega
      obtain ⟨g3, c3, hv3, _⟩ := BB3.cut hEl3.1
      subst hv3
      have HE3 := Lib.hid hE3
      have HB3 := Lib.hid BB3
      clear hE3 BB3 hown3 hgrow3 hiff3 HRA3 HCA3 HBB3 HM3 hpl3 hgb3 SX2H3 SX2N3
      clear q1 HB2 HBEL2 SX2
      obtain ⟨q0, q1, q2, q3⟩ := SX2B3.out.cells
      clear SX2B3 q0 q1
      have hBL4 := (Below.refl _ wB3).alloc (Nat.le_refl _) (.cells #[.bool x.kids, .bool x.once] 4)
      have HNM4 := Lib.hid (flag_list (.slice none 0 0) [] wB3.heap.size 0 2 [x.kids, x.once] (wB3.alloc (.cells #[.bool x.kids, .bool x.once] 4)) (Src.nil _) (by simp) (by simp)  (fun q hq => by
                match q, hq with
                | 0, _ => exact cells_new rfl
                | 1, _ => exact cells_new rfl
              ))
      go_wp2_with fail
      refine HNM4.out.mono ?_
      rintro e wA4 ⟨vA4, rfl, BA4, bA4⟩
      rw [List.nil_append] at BA4
      have bX4 := hBL4.trans (bA4.mono hBL4.size)
      have RA4 := HB3.out.below bX4
      have bB4 := HBEL3.out.trans (bX4.mono HBEL3.out.size)
      have hpl4 : 0 < (flagsE [x.kids, x.once]).length ∧ (flagsE [x.kids, x.once]).length ≤ 70000 := by rw [flagsE_length]; simp
      obtain ⟨gA4, cA4, rfl, hcA4⟩ := BA4.cut hpl4.1
      obtain ⟨m4, hm4⟩ : ∃ m, m = (flagsE [x.kids, x.once]).length := ⟨_, rfl⟩
      rw [← hm4] at hpl4 ⊢
      have HM4 := Lib.hid hm4
      have HRA4 := Lib.hid RA4
      have HCA4 := Lib.hid hcA4
      have hgb4 : w.heap.size ≤ g3 := (RA4.lt g3 rfl).1
      have HBB4 := Lib.hid bB4
      clear HNM4 BA4 bA4 bX4 RA4 hcA4 hm4 hBL4 bB4 
      go_wp2_with (at_builtin; refine wpList_append_own _ rfl _ _ _ rfl w.heap.size 5 i1 _ 1 1 und_bytes hi1 hz1 hz2 hz3 rfl (by decide) (.slice (some ⟨g3, 0, none⟩) E2.length c3) E2.length (cellsOf E2) rfl HRA4.out ⟨gA4, 0, none⟩ m4 cA4 (cellsOf (flagsE [x.kids, x.once])) rfl (by rw [cellsOf_length, HM4.out]; omega) HCA4.out (cellsOf_one _) (by unfold maxLen; omega) (by omega) HBB4.out.size ?_; intro v4 wB4 hown4 hgrow4 hiff4; go_frame)
      have BB4 : Bs wB4 w.heap.size v4 (E2 ++ flagsE [x.kids, x.once]) := Bs.app hown4 rfl HM4.out
      have HBEL4 := Lib.hid (HBB4.out.grown hgrow4 HBB4.out.size (fun q hq => by simp [Value.ownBlock] at hq; omega))
      obtain ⟨E3, hE4⟩ : ∃ E', E' = E2 ++ flagsE [x.kids, x.once] := ⟨_, rfl⟩
      rw [← hE4] at BB4
      have hEl4 : 0 < E3.length ∧ E3.length ≤ 70300000 := by rw [hE4, List.length_append, ← HM4.out]; omega
      obtain ⟨g4, c4, hv4, _⟩ := BB4.cut hEl4.1
      subst hv4
      have HE4 := Lib.hid hE4
      have HB4 := Lib.hid BB4
      clear hE4 BB4 hown4 hgrow4 hiff4 HRA4 HCA4 HBB4 HM4 hpl4 hgb4 
      have hEE : numsE [(Ws.length : Int)] ++ (Ws.take (j + 1)).flatMap waE = E3 := by
        rw [HSN.out, waE_three, HE4.out, HE3.out, HE2.out, HE0.out]; simp only [List.append_assoc]
      have HEE := Lib.hid hEE
      clear hEE q2 q3 r1 r2 HSN HE0 HE2 HE3 HE4 HB3 HBEL3
      go_wp2_with fail
      go_roundw
      case rel => exact ⟨j + 1, by omega, by go_num, by rw [HEE.out]; exact HB4, HBEL4⟩
      case measure => simp [intOf]; omega
    · obtain rfl : j = Ws.length := by omega
      have hlt2 : decide ((Ws.length : Int) < (Ws.length : Int)) = false := by simp
      rw [List.take_length] at HB
      have hEL := flat_len waE_len Ws
      obtain ⟨F0, hF0⟩ : ∃ F0, F0 = numsE [(Ws.length : Int)] ++ Ws.flatMap waE := ⟨_, rfl⟩
      have hFl : 0 < F0.length ∧ F0.length ≤ 70000000 := by
        rw [hF0, List.length_append, numsE_length]; simp only [List.length_cons, List.length_nil]; omega
      rw [← hF0] at HB
      have HF0 := Lib.hid hF0
      obtain ⟨gE, cE, hv0, _⟩ := HB.out.cut hFl.1
      subst hv0
      replace x0 := HX1.out wr HBEL.out
      clear hF0 hEL
      have hBL5 := (Below.refl _ wr).alloc (Nat.le_refl _) (.cells #[.int .i64 (Es.length : Int)] 3)
      have HNM5 := Lib.hid (num_list (.slice none 0 0) [] wr.heap.size 0 1 [(Es.length : Int)] (wr.alloc (.cells #[.int .i64 (Es.length : Int)] 3)) (Src.nil _) (by simp) (by simp) (fun q hq => by
                match q, hq with
                | 0, _ => show InR (Es.length : Int); unfold InR; omega
              ) (fun q hq => by
                match q, hq with
                | 0, _ => exact cells_new rfl
              ))
      go_wp2_with fail
      refine HNM5.out.mono ?_
      rintro e wA5 ⟨vA5, rfl, BA5, bA5⟩
      rw [List.nil_append] at BA5
      have bX5 := hBL5.trans (bA5.mono hBL5.size)
      have RA5 := HB.out.below bX5
      have bB5 := HBEL.out.trans (bX5.mono HBEL.out.size)
      have hpl5 : 0 < (numsE [(Es.length : Int)]).length ∧ (numsE [(Es.length : Int)]).length ≤ 70000 := by rw [numsE_length]; simp
      obtain ⟨gA5, cA5, rfl, hcA5⟩ := BA5.cut hpl5.1
      obtain ⟨m5, hm5⟩ : ∃ m, m = (numsE [(Es.length : Int)]).length := ⟨_, rfl⟩
      rw [← hm5] at hpl5 ⊢
      have HM5 := Lib.hid hm5
      have HRA5 := Lib.hid RA5
      have HCA5 := Lib.hid hcA5
      have hgb5 : w.heap.size ≤ gE := (RA5.lt gE rfl).1
      have HBB5 := Lib.hid bB5
      clear HNM5 BA5 bA5 bX5 RA5 hcA5 hm5 hBL5 bB5 
      go_upto_region 12 with (at_builtin; refine wpList_append_own _ rfl _ _ _ rfl w.heap.size 5 i1 _ 1 1 und_bytes hi1 hz1 hz2 hz3 rfl (by decide) (.slice (some ⟨gE, 0, none⟩) F0.length cE) F0.length (cellsOf F0) rfl HRA5.out ⟨gA5, 0, none⟩ m5 cA5 (cellsOf (numsE [(Es.length : Int)])) rfl (by rw [cellsOf_length, HM5.out]; omega) HCA5.out (cellsOf_one _) (by unfold maxLen; omega) (by omega) HBB5.out.size ?_; intro v5 wB5 hown5 hgrow5 hiff5; go_frame)
      have BB5 : Bs wB5 w.heap.size v5 (F0 ++ numsE [(Es.length : Int)]) := Bs.app hown5 rfl HM5.out
      have HBEL5 := Lib.hid (HBB5.out.grown hgrow5 HBB5.out.size (fun q hq => by simp [Value.ownBlock] at hq; omega))
      obtain ⟨F1, hE5⟩ : ∃ E', E' = F0 ++ numsE [(Es.length : Int)] := ⟨_, rfl⟩
      rw [← hE5] at BB5
      have hEl5 : 0 < F1.length ∧ F1.length ≤ 70100000 := by rw [hE5, List.length_append, ← HM5.out]; omega
      obtain ⟨g5, c5, hv5, _⟩ := BB5.cut hEl5.1
      subst hv5
      have HE5 := Lib.hid hE5
      have HB5 := Lib.hid BB5
      clear hE5 BB5 hown5 hgrow5 hiff5 HRA5 HCA5 HBB5 HM5 hpl5 hgb5 
      clear HB HBEL x0
      have x0 := HX1.out _ HBEL5.out
      have hF10 : 0 ≤ F1.length := Nat.zero_le _
      go_wp2_with fail
      go_loopw [1, 68] (fun ov iv wr => ∃ j : Nat, j ≤ Es.length ∧ iv = .int .i64 j ∧ Hid (Bs wr w.heap.size ov (F1 ++ (Es.take j).flatMap evE)) ∧ Hid (Below w.heap.size w wr)) (fun _ iv _ => Es.length - (intOf iv).toNat)
      case atStart => exact ⟨0, by omega, rfl, Lib.hid (by simpa using HB5.out), HBEL5⟩
      case round =>
        obtain ⟨j, hj, rfl, HB, HBEL⟩ := hrel
        clear HB5 HBEL5 x0
        by_cases hlt : j < Es.length
        · have hlt2 : decide ((j : Int) < (Es.length : Int)) = true := by simp; omega
          obtain ⟨x, hx⟩ : ∃ x, Es[j]? = some x := ⟨Es[j], by simp [hlt]⟩
          obtain ⟨g, rfl, hgw, _⟩ := HEA.out (by omega)
          have hrw := (HH.out.below HBEL.out).es
          have y0 := evC0 hrw hx rfl
          have y1 := evC1 hrw hx rfl
          have y2 := evC2 hrw hx rfl
          have y3 := evC3 hrw hx rfl
          have y4 := evC4 hrw hx rfl
          have hj0 : (0 : Int) ≤ (j : Int) := by omega
          have hji : (j : Int) < (Es.length : Int) := by omega
          have t2 : IntKind.i64.wrap ((j : Int) + 1) = (j : Int) + 1 := IntWalk.i64_in _ (by omega)
          obtain ⟨r1, r2, r3, r4, r5⟩ := HLO.out.es x (List.mem_of_getElem? hx)
          have HSN := Lib.hid (flat_snoc evE hx)
          have hEL := flat_len evE_len (Es.take j)
          obtain ⟨E0, hE0⟩ : ∃ E0, E0 = F1 ++ (Es.take j).flatMap evE := ⟨_, rfl⟩
          have hEl : 0 < E0.length ∧ E0.length ≤ 210000000 := by
            rw [hE0, List.length_append]; rw [List.length_take] at hEL; omega
          rw [← hE0] at HB
          have HE0 := Lib.hid hE0
          obtain ⟨gE, cE, hv0, _⟩ := HB.out.cut hEl.1
          subst hv0
          clear hrw hx hE0 hEL
          go_upto_region 15 with fail
          have NA : EvB (wr.alloc (.cells #[.int .i64 x.ses, .int .i64 x.no, .string x.path, .int .i64 x.what, .int .i64 x.when] 54)) wr.heap.size x := heap_alloc_new wr _
          have bA := (Below.refl wr.heap.size wr).alloc (Nat.le_refl _) (.cells #[.int .i64 x.ses, .int .i64 x.no, .string x.path, .int .i64 x.what, .int .i64 x.when] 54)
          obtain ⟨w5, hw5⟩ : ∃ w5, w5 = wr.alloc (.cells #[.int .i64 x.ses, .int .i64 x.no, .string x.path, .int .i64 x.what, .int .i64 x.when] 54) := ⟨_, rfl⟩
          obtain ⟨xb, hxb⟩ : ∃ xb, xb = wr.heap.size := ⟨_, rfl⟩
          rw [← hw5] at NA bA ⊢
          rw [← hxb] at NA ⊢
          have HB5 := Lib.hid (HB.out.below bA)
          have HBEL5 := Lib.hid (HBEL.out.trans (bA.mono HBEL.out.size))
          have SX := Lib.hid NA
          obtain ⟨q0, q1, q2, q3, q4⟩ := NA.cells
          clear HB HBEL NA bA hw5 hxb y0 y1 y2 y3 y4
          have hBL6 := (Below.refl _ w5).alloc (Nat.le_refl _) (.cells #[.int .i64 x.ses, .int .i64 x.no] 3)
          have HNM6 := Lib.hid (num_list (.slice none 0 0) [] w5.heap.size 0 2 [x.ses, x.no] (w5.alloc (.cells #[.int .i64 x.ses, .int .i64 x.no] 3)) (Src.nil _) (by simp) (by simp) (fun q hq => by
                        match q, hq with
                        | 0, _ => exact r1
                        | 1, _ => exact r2
                      ) (fun q hq => by
                        match q, hq with
                        | 0, _ => exact cells_new rfl
                        | 1, _ => exact cells_new rfl
                      ))
          clear q2 q3 q4
          go_wp2_with fail
          refine HNM6.out.mono ?_
          rintro e wA6 ⟨vA6, rfl, BA6, bA6⟩
          rw [List.nil_append] at BA6
          have bX6 := hBL6.trans (bA6.mono hBL6.size)
          have RA6 := HB5.out.below bX6
          have bB6 := HBEL5.out.trans (bX6.mono HBEL5.out.size)
          have SXA6 := SX.out.below bX6
          have hpl6 : 0 < (numsE [x.ses, x.no]).length ∧ (numsE [x.ses, x.no]).length ≤ 70000 := by rw [numsE_length]; simp
          obtain ⟨gA6, cA6, rfl, hcA6⟩ := BA6.cut hpl6.1
          obtain ⟨m6, hm6⟩ : ∃ m, m = (numsE [x.ses, x.no]).length := ⟨_, rfl⟩
          rw [← hm6] at hpl6 ⊢
          have HM6 := Lib.hid hm6
          have HRA6 := Lib.hid RA6
          have HCA6 := Lib.hid hcA6
          have hgb6 : w.heap.size ≤ gE := (RA6.lt gE rfl).1
          have HBB6 := Lib.hid bB6
          have SXN6 := Lib.hid (RA6.neB SXA6 (by decide))
          have SXH6 := Lib.hid SXA6
          clear HNM6 BA6 bA6 bX6 RA6 hcA6 hm6 hBL6 bB6 SXA6
          go_upto_region 16 with (at_builtin; refine wpList_append_own _ rfl _ _ _ rfl w.heap.size 5 i1 _ 1 1 und_bytes hi1 hz1 hz2 hz3 rfl (by decide) (.slice (some ⟨gE, 0, none⟩) E0.length cE) E0.length (cellsOf E0) rfl HRA6.out ⟨gA6, 0, none⟩ m6 cA6 (cellsOf (numsE [x.ses, x.no])) rfl (by rw [cellsOf_length, HM6.out]; omega) HCA6.out (cellsOf_one _) (by unfold maxLen; omega) (by omega) HBB6.out.size ?_; intro v6 wB6 hown6 hgrow6 hiff6; go_frame)
          have BB6 : Bs wB6 w.heap.size v6 (E0 ++ numsE [x.ses, x.no]) := Bs.app hown6 rfl HM6.out
          have HBEL6 := Lib.hid (HBB6.out.grown hgrow6 HBB6.out.size (fun q hq => by simp [Value.ownBlock] at hq; omega))
          have SXB6 : Hid (EvB wB6 xb x) := Lib.hid ((hgrow6.block _ SXH6.out.lt (by simp [Value.ownBlock]; exact SXN6.out)).trans SXH6.out)
          obtain ⟨E1, hE6⟩ : ∃ E', E' = E0 ++ numsE [x.ses, x.no] := ⟨_, rfl⟩
          rw [← hE6] at BB6
          have hEl6 : 0 < E1.length ∧ E1.length ≤ 210100000 := by rw [hE6, List.length_append, ← HM6.out]; omega
          obtain ⟨g6, c6, hv6, _⟩ := BB6.cut hEl6.1
          subst hv6
          have HE6 := Lib.hid hE6
          have HB6 := Lib.hid BB6
          clear hE6 BB6 hown6 hgrow6 hiff6 HRA6 HCA6 HBB6 HM6 hpl6 hgb6 SXH6 SXN6
          clear q0 q1 HB5 HBEL5 SX
          obtain ⟨q0, q1, q2, q3, q4⟩ := SXB6.out.cells
          have SX2 := SXB6
          clear SXB6
          have hBL7 := (Below.refl _ wB6).alloc (Nat.le_refl _) (.cells #[.string x.path] 9)
          have HNM7 := Lib.hid (text_list (.slice none 0 0) [] wB6.heap.size 0 1 [x.path] (wB6.alloc (.cells #[.string x.path] 9)) (Src.nil _) (by simp) (by simp) (fun q hq => by
                        match q, hq with
                        | 0, _ => show x.path.size ≤ maxLen; unfold maxLen; omega
                      ) (fun q hq => by
                        match q, hq with
                        | 0, _ => exact cells_new rfl
                      ))
          clear q0 q1 q3 q4
          go_wp2_with fail
          refine HNM7.out.mono ?_
          rintro e wA7 ⟨vA7, rfl, BA7, bA7⟩
          rw [List.nil_append] at BA7
          have bX7 := hBL7.trans (bA7.mono hBL7.size)
          have RA7 := HB6.out.below bX7
          have bB7 := HBEL6.out.trans (bX7.mono HBEL6.out.size)
          have SX2A7 := SX2.out.below bX7
          have hpl7 : 0 < (textsE [x.path]).length ∧ (textsE [x.path]).length ≤ 70000 := by have := textsE_length [x.path]; simp only [List.length_cons, List.length_nil] at this; have : 0 < (textsE [x.path]).length := (by unfold textsE textE; simp [be_length]; omega); omega
          obtain ⟨gA7, cA7, rfl, hcA7⟩ := BA7.cut hpl7.1
          obtain ⟨m7, hm7⟩ : ∃ m, m = (textsE [x.path]).length := ⟨_, rfl⟩
          rw [← hm7] at hpl7 ⊢
          have HM7 := Lib.hid hm7
          have HRA7 := Lib.hid RA7
          have HCA7 := Lib.hid hcA7
          have hgb7 : w.heap.size ≤ g6 := (RA7.lt g6 rfl).1
          have HBB7 := Lib.hid bB7
          have SX2N7 := Lib.hid (RA7.neB SX2A7 (by decide))
          have SX2H7 := Lib.hid SX2A7
          clear HNM7 BA7 bA7 bX7 RA7 hcA7 hm7 hBL7 bB7 SX2A7
          go_upto_region 17 with (at_builtin; refine wpList_append_own _ rfl _ _ _ rfl w.heap.size 5 i1 _ 1 1 und_bytes hi1 hz1 hz2 hz3 rfl (by decide) (.slice (some ⟨g6, 0, none⟩) E1.length c6) E1.length (cellsOf E1) rfl HRA7.out ⟨gA7, 0, none⟩ m7 cA7 (cellsOf (textsE [x.path])) rfl (by rw [cellsOf_length, HM7.out]; omega) HCA7.out (cellsOf_one _) (by unfold maxLen; omega) (by omega) HBB7.out.size ?_; intro v7 wB7 hown7 hgrow7 hiff7; go_frame)
          have BB7 : Bs wB7 w.heap.size v7 (E1 ++ textsE [x.path]) := Bs.app hown7 rfl HM7.out
          have HBEL7 := Lib.hid (HBB7.out.grown hgrow7 HBB7.out.size (fun q hq => by simp [Value.ownBlock] at hq; omega))
          have SX2B7 : Hid (EvB wB7 xb x) := Lib.hid ((hgrow7.block _ SX2H7.out.lt (by simp [Value.ownBlock]; exact SX2N7.out)).trans SX2H7.out)
          obtain ⟨E2, hE7⟩ : ∃ E', E' = E1 ++ textsE [x.path] := ⟨_, rfl⟩
          rw [← hE7] at BB7
          have hEl7 : 0 < E2.length ∧ E2.length ≤ 210200000 := by rw [hE7, List.length_append, ← HM7.out]; omega
          obtain ⟨g7, c7, hv7, _⟩ := BB7.cut hEl7.1
          subst hv7
          have HE7 := Lib.hid hE7
          have HB7 := Lib.hid BB7
          clear hE7 BB7 hown7 hgrow7 hiff7 HRA7 HCA7 HBB7 HM7 hpl7 hgb7 SX2H7 SX2N7
          clear q2 HB6 HBEL6 SX2
          obtain ⟨q0, q1, q2, q3, q4⟩ := SX2B7.out.cells
          clear SX2B7 q0 q1 q2
          have hBL8 := (Below.refl _ wB7).alloc (Nat.le_refl _) (.cells #[.int .i64 x.what, .int .i64 x.when] 3)
          have HNM8 := Lib.hid (num_list (.slice none 0 0) [] wB7.heap.size 0 2 [x.what, x.when] (wB7.alloc (.cells #[.int .i64 x.what, .int .i64 x.when] 3)) (Src.nil _) (by simp) (by simp) (fun q hq => by
                        match q, hq with
                        | 0, _ => exact r4
                        | 1, _ => exact r5
                      ) (fun q hq => by
                        match q, hq with
                        | 0, _ => exact cells_new rfl
                        | 1, _ => exact cells_new rfl
                      ))
          go_wp2_with fail
          refine HNM8.out.mono ?_
          rintro e wA8 ⟨vA8, rfl, BA8, bA8⟩
          rw [List.nil_append] at BA8
          have bX8 := hBL8.trans (bA8.mono hBL8.size)
          have RA8 := HB7.out.below bX8
          have bB8 := HBEL7.out.trans (bX8.mono HBEL7.out.size)
          have hpl8 : 0 < (numsE [x.what, x.when]).length ∧ (numsE [x.what, x.when]).length ≤ 70000 := by rw [numsE_length]; simp
          obtain ⟨gA8, cA8, rfl, hcA8⟩ := BA8.cut hpl8.1
          obtain ⟨m8, hm8⟩ : ∃ m, m = (numsE [x.what, x.when]).length := ⟨_, rfl⟩
          rw [← hm8] at hpl8 ⊢
          have HM8 := Lib.hid hm8
          have HRA8 := Lib.hid RA8
          have HCA8 := Lib.hid hcA8
          have hgb8 : w.heap.size ≤ g7 := (RA8.lt g7 rfl).1
          have HBB8 := Lib.hid bB8
          clear HNM8 BA8 bA8 bX8 RA8 hcA8 hm8 hBL8 bB8 
          go_wp2_with (at_builtin; refine wpList_append_own _ rfl _ _ _ rfl w.heap.size 5 i1 _ 1 1 und_bytes hi1 hz1 hz2 hz3 rfl (by decide) (.slice (some ⟨g7, 0, none⟩) E2.length c7) E2.length (cellsOf E2) rfl HRA8.out ⟨gA8, 0, none⟩ m8 cA8 (cellsOf (numsE [x.what, x.when])) rfl (by rw [cellsOf_length, HM8.out]; omega) HCA8.out (cellsOf_one _) (by unfold maxLen; omega) (by omega) HBB8.out.size ?_; intro v8 wB8 hown8 hgrow8 hiff8; go_frame)
          have BB8 : Bs wB8 w.heap.size v8 (E2 ++ numsE [x.what, x.when]) := Bs.app hown8 rfl HM8.out
          have HBEL8 := Lib.hid (HBB8.out.grown hgrow8 HBB8.out.size (fun q hq => by simp [Value.ownBlock] at hq; omega))
          obtain ⟨E3, hE8⟩ : ∃ E', E' = E2 ++ numsE [x.what, x.when] := ⟨_, rfl⟩
          rw [← hE8] at BB8
          have hEl8 : 0 < E3.length ∧ E3.length ≤ 210300000 := by rw [hE8, List.length_append, ← HM8.out]; omega
          obtain ⟨g8, c8, hv8, _⟩ := BB8.cut hEl8.1
          subst hv8
          have HE8 := Lib.hid hE8
          have HB8 := Lib.hid BB8
          clear hE8 BB8 hown8 hgrow8 hiff8 HRA8 HCA8 HBB8 HM8 hpl8 hgb8 
          have hEE : F1 ++ (Es.take (j + 1)).flatMap evE = E3 := by
            rw [HSN.out, evE_three, HE8.out, HE7.out, HE6.out, HE0.out]; simp only [List.append_assoc]
          have HEE := Lib.hid hEE
          clear hEE q3 q4 r1 r2 r3 r4 r5 HSN HE0 HE6 HE7 HE8 HB7 HBEL7
          go_wp2_with fail
          go_roundw
          case rel => exact ⟨j + 1, by omega, by go_num, by rw [HEE.out]; exact HB8, HBEL8⟩
          case measure => simp [intOf]; omega
        · obtain rfl : j = Es.length := by omega
          have hlt2 : decide ((Es.length : Int) < (Es.length : Int)) = false := by simp
          rw [List.take_length] at HB
          have hEL := flat_len evE_len Es
          obtain ⟨G0, hG0⟩ : ∃ G0, G0 = F1 ++ Es.flatMap evE := ⟨_, rfl⟩
          have hGl : 0 < G0.length ∧ G0.length ≤ 210000000 := by
            rw [hG0, List.length_append]; omega
          rw [← hG0] at HB
          have HG0 := Lib.hid hG0
          obtain ⟨gE, cE, hv0, _⟩ := HB.out.cut hGl.1
          subst hv0
          clear hG0 hEL
          have KQ := HH.out.below HBEL.out
          obtain ⟨mb, rfl, _⟩ := sorted_any _ _ _ _ _ _ _ _ _ _ wr KQ (by omega)
          have hlm : ∀ ty, (Builtin.len_ #[30] ty #[.map mb]).run Tryz.prog wr = .ok (.int .i64 (c : Int)) wr := fun ty => by
            rcases KQ.last with ⟨h1, _, h3⟩ | ⟨mb', h1, h2, _⟩
            · cases h1; rw [h3]; exact Maps.len_nil und_mapN ty
            · cases h1; exact h2.len ty
          have x2 := HX2.out wr HBEL.out
          clear KQ
          have hBL9 := (Below.refl _ wr).alloc (Nat.le_refl _) (.cells #[.int .i64 (c : Int)] 3)
          have HNM9 := Lib.hid (num_list (.slice none 0 0) [] wr.heap.size 0 1 [(c : Int)] (wr.alloc (.cells #[.int .i64 (c : Int)] 3)) (Src.nil _) (by simp) (by simp) (fun q hq => by
                        match q, hq with
                        | 0, _ => show InR (c : Int); unfold InR; omega
                      ) (fun q hq => by
                        match q, hq with
                        | 0, _ => exact cells_new rfl
                      ))
          go_wp2_with fail
          refine HNM9.out.mono ?_
          rintro e wA9 ⟨vA9, rfl, BA9, bA9⟩
          rw [List.nil_append] at BA9
          have bX9 := hBL9.trans (bA9.mono hBL9.size)
          have RA9 := HB.out.below bX9
          have bB9 := HBEL.out.trans (bX9.mono HBEL.out.size)
          have hpl9 : 0 < (numsE [(c : Int)]).length ∧ (numsE [(c : Int)]).length ≤ 70000 := by rw [numsE_length]; simp
          obtain ⟨gA9, cA9, rfl, hcA9⟩ := BA9.cut hpl9.1
          obtain ⟨m9, hm9⟩ : ∃ m, m = (numsE [(c : Int)]).length := ⟨_, rfl⟩
          rw [← hm9] at hpl9 ⊢
          have HM9 := Lib.hid hm9
          have HRA9 := Lib.hid RA9
          have HCA9 := Lib.hid hcA9
          have hgb9 : w.heap.size ≤ gE := (RA9.lt gE rfl).1
          have HBB9 := Lib.hid bB9
          clear HNM9 BA9 bA9 bX9 RA9 hcA9 hm9 hBL9 bB9 
          go_upto_region 20 with (at_builtin; refine wpList_append_own _ rfl _ _ _ rfl w.heap.size 5 i1 _ 1 1 und_bytes hi1 hz1 hz2 hz3 rfl (by decide) (.slice (some ⟨gE, 0, none⟩) G0.length cE) G0.length (cellsOf G0) rfl HRA9.out ⟨gA9, 0, none⟩ m9 cA9 (cellsOf (numsE [(c : Int)])) rfl (by rw [cellsOf_length, HM9.out]; omega) HCA9.out (cellsOf_one _) (by unfold maxLen; omega) (by omega) HBB9.out.size ?_; intro v9 wB9 hown9 hgrow9 hiff9; go_frame)
          have BB9 : Bs wB9 w.heap.size v9 (G0 ++ numsE [(c : Int)]) := Bs.app hown9 rfl HM9.out
          have HBEL9 := Lib.hid (HBB9.out.grown hgrow9 HBB9.out.size (fun q hq => by simp [Value.ownBlock] at hq; omega))
          obtain ⟨G1, hE9⟩ : ∃ E', E' = G0 ++ numsE [(c : Int)] := ⟨_, rfl⟩
          rw [← hE9] at BB9
          have hEl9 : 0 < G1.length ∧ G1.length ≤ 210100000 := by rw [hE9, List.length_append, ← HM9.out]; omega
          obtain ⟨g9, c9, hv9, _⟩ := BB9.cut hEl9.1
          subst hv9
          have HE9 := Lib.hid hE9
          have HB9 := Lib.hid BB9
          clear hE9 BB9 hown9 hgrow9 hiff9 HRA9 HCA9 HBB9 HM9 hpl9 hgb9 
          clear HB HBEL x2 hlm
          have x2 := HX2.out _ HBEL9.out
          go_wp2_with fail
          refine (keys_any mb _).mono ?_
          rintro e w' ⟨rfl, rfl⟩
          obtain ⟨mb', hmb, hso⟩ := sorted_any _ _ _ _ _ _ _ _ _ _ wB9 (HH.out.below HBEL9.out) (by omega)
          cases hmb
          have HSO := Lib.hid hso
          clear hso
          go_wp2_with fail
          refine HSO.out.mono ?_
          rintro e w20 ⟨v, zs, rfl, hI, hrow, b20⟩
          have hzl : zs.length ≤ 2000 := by rw [hI.len]; exact lc
          obtain ⟨a, ca, rfl, ha⟩ := row_formL hrow
          have HPR := Lib.hid (show KRow w20 wB9.heap.size a ca zs from hrow)
          have HB20 := Lib.hid (HB9.out.below b20)
          have HBEL20 := Lib.hid (HBEL9.out.trans (b20.mono HBEL9.out.size))
          have HI := Lib.hid hI
          have HAA := Lib.hid ha
          clear hI hrow b20 ha HB9 HBEL9 HSO x2
          go_wp2_with fail
          go_loopw [1, 111] (fun ov iv wr => ∃ j : Nat, j ≤ zs.length ∧ iv = .int .i64 j ∧ Hid (Bs wr w.heap.size ov (G1 ++ (zs.take j).flatMap (lsZ N))) ∧ Hid (Below w.heap.size w wr) ∧ Hid (KRow wr wB9.heap.size a ca zs)) (fun _ iv _ => zs.length - (intOf iv).toNat)
          case atStart => exact ⟨0, by omega, rfl, Lib.hid (by simpa using HB20.out), HBEL20, HPR⟩
          case round =>
            obtain ⟨j, hj, rfl, HB, HBEL, HPW⟩ := hrel
            clear HB20 HBEL20 HPR
            by_cases hlt : j < zs.length
            · have hlt2 : decide ((j : Int) < (zs.length : Int)) = true := by simp; omega
              obtain ⟨z, hz⟩ : ∃ z, zs[j]? = some z := ⟨zs[j], by simp [hlt]⟩
              obtain ⟨g, rfl⟩ := HAA.out (by omega)
              have hcj := HPW.out.at hz
              have hj0 : (0 : Int) ≤ (j : Int) := by omega
              have hji : (j : Int) < (zs.length : Int) := by omega
              have t2 : IntKind.i64.wrap ((j : Int) + 1) = (j : Int) + 1 := IntWalk.i64_in _ (by omega)
              obtain ⟨nz, hnz⟩ := Option.isSome_iff_exists.1 ((HI.out.mem z).1 (List.mem_of_getElem? hz))
              obtain ⟨r1, r2⟩ := HLO.out.ls z nz hnz
              have HSN := Lib.hid (flat_snoc (lsZ N) hz)
              have hEL := flat_len (lsZ_len N) (zs.take j)
              obtain ⟨E0, hE0⟩ : ∃ E0, E0 = G1 ++ (zs.take j).flatMap (lsZ N) := ⟨_, rfl⟩
              have hEl : 0 < E0.length ∧ E0.length ≤ 350000000 := by
                rw [hE0, List.length_append]; rw [List.length_take] at hEL; omega
              rw [← hE0] at HB
              have HE0 := Lib.hid hE0
              obtain ⟨gE, cE, hv0, _⟩ := HB.out.cut hEl.1
              subst hv0
              have hgg : g ≠ gE := row_apart HPW.out HB.out (by decide)
              have hlk := look_bk (HH.out.below HBEL.out) z r1
              rw [hnz] at hlk
              simp only [Option.getD_some] at hlk
              have x2 := HX2.out wr HBEL.out
              have HNZ := Lib.hid hnz
              clear hz hE0 hEL hnz
              go_upto_region 23 with fail
              have hBL10 := (Below.refl _ wr).alloc (Nat.le_refl _) (.cells #[.int .i64 z, .int .i64 nz] 3)
              have HNM10 := Lib.hid (num_list (.slice none 0 0) [] wr.heap.size 0 2 [z, nz] (wr.alloc (.cells #[.int .i64 z, .int .i64 nz] 3)) (Src.nil _) (by simp) (by simp) (fun q hq => by
                                match q, hq with
                                | 0, _ => exact r1
                                | 1, _ => exact r2
                              ) (fun q hq => by
                                match q, hq with
                                | 0, _ => exact cells_new rfl
                                | 1, _ => exact cells_new rfl
                              ))
              go_wp2_with fail
              refine HNM10.out.mono ?_
              rintro e wA10 ⟨vA10, rfl, BA10, bA10⟩
              rw [List.nil_append] at BA10
              have bX10 := hBL10.trans (bA10.mono hBL10.size)
              have RA10 := HB.out.below bX10
              have bB10 := HBEL.out.trans (bX10.mono HBEL.out.size)
              have hpl10 : 0 < (numsE [z, nz]).length ∧ (numsE [z, nz]).length ≤ 70000 := by rw [numsE_length]; simp
              obtain ⟨gA10, cA10, rfl, hcA10⟩ := BA10.cut hpl10.1
              obtain ⟨m10, hm10⟩ : ∃ m, m = (numsE [z, nz]).length := ⟨_, rfl⟩
              rw [← hm10] at hpl10 ⊢
              have HM10 := Lib.hid hm10
              have HRA10 := Lib.hid RA10
              have HCA10 := Lib.hid hcA10
              have hgb10 : w.heap.size ≤ gE := (RA10.lt gE rfl).1
              have HBB10 := Lib.hid bB10
              have HKRA10 := Lib.hid (HPW.out.low bX10)
              clear HNM10 BA10 bA10 bX10 RA10 hcA10 hm10 hBL10 bB10 
              go_wp2_with (at_builtin; refine wpList_append_own _ rfl _ _ _ rfl w.heap.size 5 i1 _ 1 1 und_bytes hi1 hz1 hz2 hz3 rfl (by decide) (.slice (some ⟨gE, 0, none⟩) E0.length cE) E0.length (cellsOf E0) rfl HRA10.out ⟨gA10, 0, none⟩ m10 cA10 (cellsOf (numsE [z, nz])) rfl (by rw [cellsOf_length, HM10.out]; omega) HCA10.out (cellsOf_one _) (by unfold maxLen; omega) (by omega) HBB10.out.size ?_; intro v10 wB10 hown10 hgrow10 hiff10; go_frame)
              have BB10 : Bs wB10 w.heap.size v10 (E0 ++ numsE [z, nz]) := Bs.app hown10 rfl HM10.out
              have HBEL10 := Lib.hid (HBB10.out.grown hgrow10 HBB10.out.size (fun q hq => by simp [Value.ownBlock] at hq; omega))
              have HKRB10 := Lib.hid (HKRA10.out.grown hgg (by simpa [Value.ownBlock] using hgrow10))
              obtain ⟨E1, hE10⟩ : ∃ E', E' = E0 ++ numsE [z, nz] := ⟨_, rfl⟩
              rw [← hE10] at BB10
              have hEl10 : 0 < E1.length ∧ E1.length ≤ 350100000 := by rw [hE10, List.length_append, ← HM10.out]; omega
              obtain ⟨g10, c10, hv10, _⟩ := BB10.cut hEl10.1
              subst hv10
              have HE10 := Lib.hid hE10
              have HB10 := Lib.hid BB10
              clear hE10 BB10 hown10 hgrow10 hiff10 HRA10 HCA10 HBB10 HM10 hpl10 hgb10 
              have hEE : G1 ++ (zs.take (j + 1)).flatMap (lsZ N) = E1 := by
                rw [HSN.out, HE10.out, HE0.out, lsZ, HNZ.out]; simp only [List.append_assoc, Option.getD_some]
              have HEE := Lib.hid hEE
              clear hEE x2 hlk hcj r1 r2 HSN HE0 HE10 HB HBEL HPW
              go_wp2_with fail
              go_roundw
              case rel => exact ⟨j + 1, by omega, by go_num, by rw [HEE.out]; exact HB10, HBEL10, HKRB10⟩
              case measure => simp [intOf]; omega
            · obtain rfl : j = zs.length := by omega
              have hlt2 : decide ((zs.length : Int) < (zs.length : Int)) = false := by simp
              rw [List.take_length, HE9.out, HG0.out, HE5.out, HF0.out, ← HI.out.len] at HB
              go_wp2_with fail
              go_ret
              exact ⟨_, zs, rfl, HI.out, HB.out, HBEL.out⟩
end Go.Proofs.YtbbdokfankgllaaGreatDoor
