/- Lay of a tree: its bytes. No conditions beyond those in each statement. -/
import Derived.Test.YtblcpihfnpgfiaaGreatDoorTreePRow
import Derived.Test.YtblcpihfnpgfiaaGreatDoorTreeRd
import Derived.Deep.DeepCutAuto
namespace Go.Proofs.YtblcpihfnpgfiaaGreatDoor
open Go.RowKit Go.Maps Go.Sort
set_option linter.unusedVariables false
set_option linter.unusedSimpArgs false
set_option maxRecDepth 100000

theorem entE_len (e : Me) : (entE e).length ≤ 131110 := by
  have h1 := textE_length e.1
  have h2 := textE_length e.2.data.data.toList
  unfold entE; simp only [List.length_append, numE_length]; omega
theorem ents_len : ∀ L : List Me, (L.flatMap entE).length ≤ 131110 * L.length
  | [] => by simp
  | z :: l => by
    have h1 := ents_len l
    have h2 := entE_len z
    rw [List.flatMap_cons, List.length_append, List.length_cons]; omega
theorem ents_snoc (L : List Me) (k : Nat) (h : k < L.length) : (L.take (k + 1)).flatMap entE = (L.take k).flatMap entE ++ entE (L.getD k meZ) := by
  rw [take_snoc_getD L meZ k h, List.flatMap_append]; simp
theorem Bs.app {w : World} {B n m : Nat} {v : Value} {l k : List UInt8} (h : w.ownsRow B 5 1 v (n + m) (cellsOf l ++ cellsOf k)) (h1 : n = l.length) (h2 : m = k.length) : Bs w B v (l ++ k) := by
  unfold Bs; rw [cellsOf_append, List.length_append, ← h1, ← h2]; exact h
theorem entE_two (e : Me) : entE e = textsE [bs e.1, e.2.data] ++ numsE [e.2.ver, e.2.below, e.2.owner, e.2.made, e.2.put, e.2.serial] := by
  unfold entE textsE numsE
  simp [bs_list]
def PutOk (n : Nd) : Prop := n.data.size ≤ 100000 ∧ InR n.ver ∧ InR n.below ∧ InR n.owner ∧ InR n.made ∧ InR n.put ∧ InR n.serial
theorem NdOk.toPut {n : Nd} (h : NdOk n) : PutOk n := by
  obtain ⟨h1, h2, h3, h4, h5, h6, h7⟩ := h
  unfold PutOk InR; omega
set_option maxHeartbeats 16000000 in
theorem lay_any (tb mb k c : Nat) (T : List UInt8 → Option Nd) (L : List Me) (w : World) (h : TrW w tb mb k c T) (hR : Rep T L) (hc : c = L.length) (hL : L.length ≤ 1000) (hT : ∀ x n, T x = some n → PutOk n) (hK : ∀ x n, T x = some n → x.length ≤ 1000) :
    Calls Tryz.prog 21 #[.pointer (some ⟨tb, 0, none⟩), .slice none 0 0] w fun e w' => ∃ v, e = .returned v ∧ Bs w' w.heap.size v (layE L) ∧ Below w.heap.size w w' := by
  subst hc
  have HLE := Lib.hid (len_any tb mb k L.length T w h)
  have HPA := Lib.hid (fun (W : World) (hW : Below w.heap.size w W) => paths_any tb mb k L.length T L W (h.below hW) hR hL)
  have HH := Lib.hid h
  have HTT := Lib.hid hT
  have HKK := Lib.hid hK
  have HR := Lib.hid hR
  obtain ⟨i1, hi1, hz1, hz2, hz3⟩ := info_parts info_u8
  clear h hT hK hR
  go_enter Tryz.func21, Tryz.ntmps21
  go_wp2_with fail
  refine HLE.out.mono ?_
  rintro e w1 ⟨rfl, rfl⟩
  have HNUM := Lib.hid (num_one (.slice none 0 0) [] (L.length : Int) w1 (Src.nil w1) (by simp) (by omega))
  go_wp2_with fail
  refine HNUM.out.mono ?_
  rintro e w3 ⟨v3, rfl, B3, b3⟩
  have B3' : Bs w3 w1.heap.size v3 (numE (L.length : Int) ++ (L.take 0).flatMap entE) := by simpa using B3
  clear HNUM B3 HLE
  go_wp2_with fail
  refine (HPA.out _ b3).mono ?_
  rintro e w4 ⟨v, rfl, hrow, b4⟩
  obtain ⟨a, ca, rfl, ha⟩ := row_formL hrow
  have B4 := B3'.below b4
  replace b4 := b3.trans (b4.mono b3.size)
  have HPR := Lib.hid (show PRow w4 w3.heap.size a ca L from hrow)
  clear hrow B3' b3 HPA
  go_wp2_with fail
  go_loopw [5, 17] (fun ov iv wr => ∃ j : Nat, j ≤ L.length ∧ iv = .int .i64 j ∧ Bs wr w1.heap.size ov (numE (L.length : Int) ++ (L.take j).flatMap entE) ∧ Below w1.heap.size w1 wr ∧ Hid (PRow wr w3.heap.size a ca L)) (fun _ iv _ => L.length - (intOf iv).toNat)
  case atStart => exact ⟨0, by omega, rfl, B4, b4, HPR⟩
  case round =>
    obtain ⟨j, hj, rfl, HB, bk, HPW⟩ := hrel
    clear B4 b4 HPR
    by_cases hlt : j < L.length
    · have hlt2 : decide ((j : Int) < (L.length : Int)) = true := by simp; omega
      obtain ⟨g, rfl⟩ := ha (by omega)
      have hcj := HPW.out.at hlt
      have t2 : IntKind.i64.wrap ((j : Int) + 1) = (j : Int) + 1 := IntWalk.i64_in _ (by omega)
      have hj0 : (0 : Int) ≤ (j : Int) := by omega
      have hji : (j : Int) < (L.length : Int) := by omega
      have HSN := Lib.hid (ents_snoc L j hlt)
      have hEL := ents_len (L.take j)
      have hmem : L.getD j meZ ∈ L := getD_mem hlt
      obtain ⟨⟨p, n⟩, he⟩ : ∃ e, e = L.getD j meZ := ⟨_, rfl⟩
      rw [← he] at hcj hmem HSN
      have hTp := (HR.out.mem p n).2 hmem
      obtain ⟨hsz, r1, r2, r3, r4, r5, r6⟩ := HTT.out p n hTp
      have hpl := HKK.out p n hTp
      have H2 := HH.out.below bk
      have hcell := H2.cell
      have hl := H2.map.look p (by unfold maxLen; omega)
      rw [hTp] at hl
      simp only [Option.getD_some, ndV] at hl
      obtain ⟨E0, hE0⟩ : ∃ E0, E0 = numE (L.length : Int) ++ (L.take j).flatMap entE := ⟨_, rfl⟩
      have hE0l : E0.length ≤ 140000000 := by
        rw [hE0, List.length_append, numE_length]; rw [List.length_take] at hEL; omega
      have hE00 : 0 < E0.length := by rw [hE0, List.length_append, numE_length]; omega
      rw [← hE0] at HB
      have HE0 := Lib.hid hE0
      obtain ⟨g5, c5, hv5, _⟩ := HB.cut hE00
      subst hv5
      have hg5 : g5 < wr.heap.size := (HB.lt g5 rfl).2
      have hgb : w1.heap.size ≤ g5 := (HB.lt g5 rfl).1
      clear he hmem hTp hE0 H2 hEL
      have bA := bk.alloc bk.size (.cells (ndC n) 40)
      have RA := HB.below ((Below.refl _ wr).alloc (Nat.le_refl _) (.cells (ndC n) 40))
      have N6 := NdB.new wr n
      have hgg : g ≠ g5 := row_apart HPW.out HB (by decide)
      have PA := HPW.out.low ((Below.refl _ wr).alloc (Nat.le_refl _) (.cells (ndC n) 40))
      unfold ndC at bA RA N6 PA
      go_upto_region 6 with fail
      obtain ⟨w6, hw6⟩ : ∃ w6, w6 = wr.alloc (.cells #[.string n.data, .int .i64 n.ver, .int .i64 n.below, .int .i64 n.owner, .int .i64 n.made, .int .i64 n.put, .int .i64 n.serial] 40) := ⟨_, rfl⟩
      rw [← hw6] at bA RA N6 PA ⊢
      have hlr : wr.heap.size < w6.heap.size := NdB.lt N6
      obtain ⟨⟨x0, x1, x2, x3, x4, x5, x6⟩, _⟩ := N6.cells
      have hBL := (Below.refl _ w6).alloc (Nat.le_refl _) (.cells #[.string (bs p), .string n.data] 9)
      have HNM := Lib.hid (text_list (.slice none 0 0) [] w6.heap.size 0 2 [bs p, n.data] (w6.alloc (.cells #[.string (bs p), .string n.data] 9)) (Src.nil _) (by simp) (by simp)
        (fun q hq => by
          match q, hq with
          | 0, _ => show (bs p).size ≤ maxLen; rw [bs_size]; unfold maxLen; omega
          | 1, _ => show n.data.size ≤ maxLen; unfold maxLen; omega)
        (fun q hq => by
          match q, hq with
          | 0, _ => exact cells_new rfl
          | 1, _ => exact cells_new rfl))
      have HRA := Lib.hid RA
      have HPA6 := Lib.hid PA
      have HN6 := Lib.hid N6
      have HX := Lib.hid (⟨x1, x2, x3, x4, x5, x6⟩ : w6.cell? ⟨wr.heap.size, 1, none⟩ = some (.int .i64 n.ver) ∧ w6.cell? ⟨wr.heap.size, 2, none⟩ = some (.int .i64 n.below) ∧ w6.cell? ⟨wr.heap.size, 3, none⟩ = some (.int .i64 n.owner) ∧ w6.cell? ⟨wr.heap.size, 4, none⟩ = some (.int .i64 n.made) ∧ w6.cell? ⟨wr.heap.size, 5, none⟩ = some (.int .i64 n.put) ∧ w6.cell? ⟨wr.heap.size, 6, none⟩ = some (.int .i64 n.serial))
      clear hw6 hcj hcell hl HB RA N6 PA HPW bk x1 x2 x3 x4 x5 x6
      go_wp2_with fail
      refine HNM.out.mono ?_
      rintro e w7 ⟨v7, rfl, B7, b7⟩
      rw [List.nil_append] at B7
      have b67 := hBL.trans (b7.mono hBL.size)
      have R7 := HRA.out.below b67
      have N7 := HN6.out.below b67
      have bB := bA.trans (b67.mono bA.size)
      have HP7 := Lib.hid (HPA6.out.low b67)
      have hl7 : (textsE [bs p, n.data]).length ≤ 131074 := by have := textsE_length [bs p, n.data]; simpa using this
      have hl70 : 0 < (textsE [bs p, n.data]).length := by unfold textsE textE; simp [be_length]; omega
      obtain ⟨g7, c7, rfl, hc7⟩ := B7.cut hl70
      obtain ⟨m7, hm7⟩ : ∃ m7, m7 = (textsE [bs p, n.data]).length := ⟨_, rfl⟩
      rw [← hm7] at hl7 hl70 ⊢
      have HR7 := Lib.hid R7
      have HC7 := Lib.hid hc7
      have HN7 := Lib.hid N7
      have HM7 := Lib.hid hm7
      have hw7s : wr.heap.size < w7.heap.size := NdB.lt N7
      clear HNM B7 b7 b67 R7 N7 hc7 HRA HN6 HPA6 hBL bA x0 hm7 HX
      go_upto_region 7 with (at_builtin; refine wpList_append_own _ rfl _ _ _ rfl w1.heap.size 5 i1 _ 1 1 und_bytes hi1 hz1 hz2 hz3 rfl (by decide) (.slice (some ⟨g5, 0, none⟩) E0.length c5) E0.length (cellsOf E0) rfl HR7.out ⟨g7, 0, none⟩ m7 c7 (cellsOf (textsE [bs p, n.data])) rfl (by rw [cellsOf_length, HM7.out]; omega) HC7.out (cellsOf_one _) (by unfold maxLen; omega) (by omega) bB.size ?_; intro v8 w8 hown8 hgrow8 hiff8; go_frame)
      have B8 : Bs w8 w1.heap.size v8 (E0 ++ textsE [bs p, n.data]) := Bs.app hown8 rfl HM7.out
      have N8 : NdB w8 wr.heap.size n := (hgrow8.block wr.heap.size hw7s (by simp [Value.ownBlock]; omega)).trans HN7.out
      obtain ⟨⟨x0, x1, x2, x3, x4, x5, x6⟩, _⟩ := N8.cells
      have b8 := bB.grown hgrow8 bB.size (fun q hq => by simp [Value.ownBlock] at hq; omega)
      have HP8 := Lib.hid (HP7.out.grown hgg (by simpa [Value.ownBlock] using hgrow8))
      obtain ⟨m8, hm8⟩ : ∃ m8, m8 = E0.length + m7 := ⟨_, rfl⟩
      have hE1l : (E0 ++ textsE [bs p, n.data]).length = m8 := by rw [List.length_append, ← HM7.out, hm8]
      obtain ⟨g8, c8, hv8, _⟩ := B8.cut (by omega)
      rw [hE1l] at hv8
      subst hv8
      have hgb8 : w1.heap.size ≤ g8 := (B8.lt g8 rfl).1
      have hgg8 : g ≠ g8 := row_apart HP8.out (by have := B8; unfold Bs at this; rw [hE1l] at this; exact this) (by decide)
      have hBL := (Below.refl _ w8).alloc (Nat.le_refl _) (.cells #[.int .i64 n.ver, .int .i64 n.below, .int .i64 n.owner, .int .i64 n.made, .int .i64 n.put, .int .i64 n.serial] 3)
      have HTX := Lib.hid (num_list (.slice none 0 0) [] w8.heap.size 0 6 [n.ver, n.below, n.owner, n.made, n.put, n.serial] (w8.alloc (.cells #[.int .i64 n.ver, .int .i64 n.below, .int .i64 n.owner, .int .i64 n.made, .int .i64 n.put, .int .i64 n.serial] 3)) (Src.nil _) (by simp) (by simp)
        (fun q hq => by
          match q, hq with
          | 0, _ => exact r1
          | 1, _ => exact r2
          | 2, _ => exact r3
          | 3, _ => exact r4
          | 4, _ => exact r5
          | 5, _ => exact r6)
        (fun q hq => by
          match q, hq with
          | 0, _ => exact cells_new rfl
          | 1, _ => exact cells_new rfl
          | 2, _ => exact cells_new rfl
          | 3, _ => exact cells_new rfl
          | 4, _ => exact cells_new rfl
          | 5, _ => exact cells_new rfl))
      have HB8 := Lib.hid B8
      have HM8 := Lib.hid hm8
      clear hown8 hgrow8 hiff8 HR7 HC7 HN7 HP7 bB B8 N8 r1 r2 r3 r4 r5 r6 hm8
      go_wp2_with fail
      refine HTX.out.mono ?_
      rintro e w9 ⟨v9, rfl, B9, b9⟩
      rw [List.nil_append] at B9
      have b89 := hBL.trans (b9.mono hBL.size)
      have R9 := HB8.out.below b89
      have HP9 := Lib.hid (HP8.out.low b89)
      have bC := b8.trans (b89.mono b8.size)
      have hl9 : (numsE [n.ver, n.below, n.owner, n.made, n.put, n.serial]).length = 36 := by rw [numsE_length]; rfl
      obtain ⟨g9, c9, rfl, hc9⟩ := B9.cut (by omega)
      rw [hl9]
      have HR9 := Lib.hid R9
      have HC9 := Lib.hid hc9
      have HL9 := Lib.hid hl9
      have hml8 : m8 ≤ 141000000 := by have := HM8.out; omega
      clear HTX B9 b9 b89 b8 R9 HB8 HP8 hc9 hl9 hBL x0 x1 x2 x3 x4 x5 x6
      go_wp2_with (at_builtin; refine wpList_append_own _ rfl _ _ _ rfl w1.heap.size 5 i1 _ 1 1 und_bytes hi1 hz1 hz2 hz3 rfl (by decide) (.slice (some ⟨g8, 0, none⟩) m8 c8) m8 (cellsOf (E0 ++ textsE [bs p, n.data])) rfl (by have := HR9.out; unfold Bs at this; rw [hE1l] at this; exact this) ⟨g9, 0, none⟩ 36 c9 (cellsOf (numsE [n.ver, n.below, n.owner, n.made, n.put, n.serial])) rfl (by rw [cellsOf_length, HL9.out]) HC9.out (cellsOf_one _) (by unfold maxLen; omega) (by omega) bC.size ?_; intro v10 w10 hown10 hgrow10 hiff10; go_frame)
      have B10 : Bs w10 w1.heap.size v10 ((E0 ++ textsE [bs p, n.data]) ++ numsE [n.ver, n.below, n.owner, n.made, n.put, n.serial]) := Bs.app hown10 hE1l.symm HL9.out.symm
      have b10 := bC.grown hgrow10 bC.size (fun q hq => by simp [Value.ownBlock] at hq; omega)
      have HP10 := Lib.hid (HP9.out.grown hgg8 (by simpa [Value.ownBlock] using hgrow10))
      have hEE : numE (L.length : Int) ++ (L.take (j + 1)).flatMap entE = (E0 ++ textsE [bs p, n.data]) ++ numsE [n.ver, n.below, n.owner, n.made, n.put, n.serial] := by
        rw [HSN.out, HE0.out, entE_two]; simp only [List.append_assoc]
      have HB10 := Lib.hid B10
      clear hown10 hgrow10 hiff10 HR9 HC9 HP9 bC B10
      go_wp2_with fail
      go_roundw
      case rel => exact ⟨j + 1, by omega, by go_num, by rw [hEE]; exact HB10.out, b10, HP10⟩
      case measure => simp [intOf]; omega
    · obtain rfl : j = L.length := by omega
      have hlt2 : decide ((L.length : Int) < (L.length : Int)) = false := by simp
      rw [List.take_length] at HB
      go_wp2_with fail
      go_ret
      exact ⟨_, rfl, HB, bk⟩
end Go.Proofs.YtblcpihfnpgfiaaGreatDoor
