/- The law's Same: a tree that has just the model's nodes. No conditions beyond those in each statement. -/
import Derived.Test.YtblcpihfnpgfiaaGreatDoorTreePRow
import Derived.Test.YtblcpihfnpgfiaaGreatDoorTreeSame
namespace Go.Proofs.YtblcpihfnpgfiaaGreatDoor
open Go.RowKit Go.Maps Go.Sort
set_option linter.unusedVariables false
set_option linter.unusedSimpArgs false
set_option maxRecDepth 100000

def meA (e : Me) : Array Value := #[.string (bs e.1), .string e.2.data, .int .i64 e.2.ver, .int .i64 e.2.below, .int .i64 e.2.owner, .int .i64 e.2.made, .int .i64 e.2.put, .int .i64 e.2.serial]
def MeB (w : World) (b : Nat) (e : Me) : Prop := w.heap[b]? = some (.cells (meA e) 49 (0, 0))
theorem MeB.lt {w : World} {b : Nat} {e : Me} (h : MeB w b e) : b < w.heap.size := (Array.getElem?_eq_some_iff.1 h).1
theorem MeB.below {w w' : World} {b : Nat} {e : Me} (h : MeB w b e) (hb : Below w.heap.size w w') : MeB w' b e := (hb.block b (MeB.lt h)).trans h
theorem MeB.cells {w : World} {b : Nat} {e : Me} (h : MeB w b e) : w.cell? ⟨b, 0, none⟩ = some (.string (bs e.1)) ∧ w.cell? ⟨b, 1, none⟩ = some (.string e.2.data) ∧ w.cell? ⟨b, 2, none⟩ = some (.int .i64 e.2.ver) ∧ w.cell? ⟨b, 3, none⟩ = some (.int .i64 e.2.below) ∧ w.cell? ⟨b, 4, none⟩ = some (.int .i64 e.2.owner) ∧ w.cell? ⟨b, 5, none⟩ = some (.int .i64 e.2.made) ∧ w.cell? ⟨b, 6, none⟩ = some (.int .i64 e.2.put) ∧ w.cell? ⟨b, 7, none⟩ = some (.int .i64 e.2.serial) := by
  unfold MeB meA at h
  simp [World.cell?, h]
theorem run_loadE {W : World} {base mp g cap : Nat} {L : List Me} (h : ModL W base mp g cap L) {j : Nat} {e : Me} (he : L[j]? = some e) : (Instr.loadAt 49 (.pointer (some ⟨g, j * 8, none⟩))).run Tryz.prog W = .ok (.agg (meA e)) W := by
  obtain ⟨c0, c1, c2, c3, c4, c5, c6, c7⟩ := h.cells j e he
  simp [go_sem, c0, c1, c2, c3, c4, c5, c6, c7, meA]
theorem newE (W : World) (e : Me) : ∃ W', (Instr.storeAt 49 (.pointer (some ⟨W.heap.size, 0, none⟩)) (.agg (meA e))).run Tryz.prog (W.alloc (.cells #[.string ⟨#[]⟩, .string ⟨#[]⟩, .int .i64 0, .int .i64 0, .int .i64 0, .int .i64 0, .int .i64 0, .int .i64 0] 49)) = .ok () W' ∧ MeB W' W.heap.size e ∧ Below W.heap.size W W' := by
  have h := World.alloc_heap_new W (.cells #[.string ⟨#[]⟩, .string ⟨#[]⟩, .int .i64 0, .int .i64 0, .int .i64 0, .int .i64 0, .int .i64 0, .int .i64 0] 49)
  have b := (Below.refl _ W).alloc (Nat.le_refl _) (.cells #[.string ⟨#[]⟩, .string ⟨#[]⟩, .int .i64 0, .int .i64 0, .int .i64 0, .int .i64 0, .int .i64 0, .int .i64 0] 49)
  generalize W.alloc (.cells #[.string ⟨#[]⟩, .string ⟨#[]⟩, .int .i64 0, .int .i64 0, .int .i64 0, .int .i64 0, .int .i64 0, .int .i64 0] 49) = X at h b ⊢
  refine ⟨((((((((X.setCell ⟨W.heap.size, 0, none⟩ (.string (bs e.1))).setCell ⟨W.heap.size, 1, none⟩ (.string e.2.data)).setCell ⟨W.heap.size, 2, none⟩ (.int .i64 e.2.ver)).setCell ⟨W.heap.size, 3, none⟩ (.int .i64 e.2.below)).setCell ⟨W.heap.size, 4, none⟩ (.int .i64 e.2.owner)).setCell ⟨W.heap.size, 5, none⟩ (.int .i64 e.2.made)).setCell ⟨W.heap.size, 6, none⟩ (.int .i64 e.2.put)).setCell ⟨W.heap.size, 7, none⟩ (.int .i64 e.2.serial)), ?_, ?_, ?_⟩
  · have c0 : ∀ i, i < 8 → ∃ u, X.cell? ⟨W.heap.size, i, none⟩ = some u := fun i hi => by
      simp only [World.cell?, h]
      match i, hi with
      | 0, _ => exact ⟨_, rfl⟩
      | 1, _ => exact ⟨_, rfl⟩
      | 2, _ => exact ⟨_, rfl⟩
      | 3, _ => exact ⟨_, rfl⟩
      | 4, _ => exact ⟨_, rfl⟩
      | 5, _ => exact ⟨_, rfl⟩
      | 6, _ => exact ⟨_, rfl⟩
      | 7, _ => exact ⟨_, rfl⟩
    have f0 : ∀ i, X.frozen? ⟨W.heap.size, i, none⟩ = false := fun i => by simp [World.frozen?, h]
    obtain ⟨u0, h0⟩ := c0 0 (by decide)
    obtain ⟨u1, h1⟩ := c0 1 (by decide)
    obtain ⟨u2, h2⟩ := c0 2 (by decide)
    obtain ⟨u3, h3⟩ := c0 3 (by decide)
    obtain ⟨u4, h4⟩ := c0 4 (by decide)
    obtain ⟨u5, h5⟩ := c0 5 (by decide)
    obtain ⟨u6, h6⟩ := c0 6 (by decide)
    obtain ⟨u7, h7⟩ := c0 7 (by decide)
    simp [go_sem, h0, h1, h2, h3, h4, h5, h6, h7, f0, meA]
  · unfold MeB meA
    have h0 := bset (i := 0) (u := .string (bs e.1)) h
    have h1 := bset (i := 1) (u := .string e.2.data) h0
    have h2 := bset (i := 2) (u := .int .i64 e.2.ver) h1
    have h3 := bset (i := 3) (u := .int .i64 e.2.below) h2
    have h4 := bset (i := 4) (u := .int .i64 e.2.owner) h3
    have h5 := bset (i := 5) (u := .int .i64 e.2.made) h4
    have h6 := bset (i := 6) (u := .int .i64 e.2.put) h5
    have h7 := bset (i := 7) (u := .int .i64 e.2.serial) h6
    simp only [List.setIfInBounds_toArray, List.set_cons_zero, List.set_cons_succ] at h7
    exact h7
  · exact (((((((b.setCell (Nat.le_refl _) _).setCell (Nat.le_refl _) _).setCell (Nat.le_refl _) _).setCell (Nat.le_refl _) _).setCell (Nat.le_refl _) _).setCell (Nat.le_refl _) _).setCell (Nat.le_refl _) _).setCell (Nat.le_refl _) _
set_option maxHeartbeats 8000000 in
theorem samem_any (tb mb k : Nat) (T : List UInt8 → Option Nd) (base mp g cap : Nat) (L : List Me) (w : World) (h : TrW w tb mb k L.length T) (hM : ModL w base mp g cap L) (hR : Rep T L) (hL : L.length ≤ 200) (hK : KeysOk T) (hKl : ∀ x n, T x = some n → x.length ≤ 1000) :
    Calls Tryz.prog 11 #[.pointer (some ⟨tb, 0, none⟩), .pointer (some ⟨mp, 0, none⟩)] w fun e w' => e = .returned (.bool true) ∧ Below w.heap.size w w' := by
  have HP := Lib.hid (paths_any tb mb k L.length T L w h hR (by omega))
  have HH := Lib.hid h
  have HM := Lib.hid hM
  have HR := Lib.hid hR
  have HK := Lib.hid hK
  have HKL := Lib.hid hKl
  clear h hM hR hK hKl
  go_enter Tryz.func11, Tryz.ntmps11
  go_wp2_with fail
  refine HP.out.mono ?_
  rintro e w1 ⟨v, rfl, hrow, b1⟩
  obtain ⟨a, ca, rfl, ha⟩ := row_formL hrow
  have HPR := Lib.hid (show PRow w1 w.heap.size a ca L from hrow)
  have M1 := HM.out.below b1
  have T1 := HH.out.below b1
  go_upto_region 2 with fail
  have x0 := (M1.below ((Below.refl _ w1).drew)).cell
  have HLE := Lib.hid (fun (W : World) (hW : W = w1.drew) => len_any tb mb k L.length T W (by rw [hW]; exact T1.drew))
  clear hrow HP
  go_region_held3 (fun w' => w'.cell? ⟨mp, 0, none⟩ = some (.slice (some ⟨g, 0, none⟩) L.length cap)) (first | (with_reducible assumption) | go_keep)
    ((go_at_call 17; refine (HLE.out _ rfl).mono ?_; rintro e w2 ⟨rfl, hw⟩; obtain rfl := hw.symm))
  have b2 := b1.trans (((Below.refl _ w1).drew).mono b1.size)
  have HP2 := Lib.hid (HPR.out.low ((Below.refl _ w1).drew))
  clear x0 HLE M1 T1 b1 HPR
  go_wp2_with fail
  obtain ⟨w2, hw2⟩ : ∃ w2, w2 = w1.drew := ⟨_, rfl⟩
  rw [← hw2] at b2 HP2 ⊢
  clear hw2
  go_loopw [35] (fun iv wr => ∃ j : Nat, j ≤ L.length ∧ iv = .int .i64 j ∧ Hid (PRow wr w.heap.size a ca L) ∧ Below w.heap.size w wr) (fun iv _ => L.length - (intOf iv).toNat)
  case atStart => exact ⟨0, by omega, rfl, HP2, b2⟩
  case round =>
    obtain ⟨j, hj, rfl, HPW, bk⟩ := hrel
    clear HP2 b2
    by_cases hlt : j < L.length
    · have hlt2 : decide ((j : Int) < (L.length : Int)) = true := by simp; omega
      have t2 : IntKind.i64.wrap ((j : Int) + 1) = (j : Int) + 1 := IntWalk.i64_in _ (by omega)
      have hj0 : (0 : Int) ≤ (j : Int) := by omega
      have hji : (j : Int) < (L.length : Int) := by omega
      obtain ⟨ga, rfl⟩ := ha (by omega)
      obtain ⟨⟨p, n⟩, he⟩ : ∃ e, L[j]? = some e := ⟨L[j], by simp [hlt]⟩
      have hgd : L.getD j meZ = (p, n) := by rw [List.getD_eq_getElem?_getD, he]; rfl
      have hmem : (p, n) ∈ L := List.mem_of_getElem? he
      have hTp := (HR.out.mem p n).2 hmem
      have hgn : getN T p = (n, 0) := get_someR (HK.out p n hTp) hTp
      have hpl := HKL.out p n hTp
      have M9 := HM.out.below bk
      have HLD := Lib.hid (run_loadE M9 he)
      obtain ⟨w4, hst, E4, b4⟩ := newE wr (p, n)
      have HST := Lib.hid hst
      have P4 := HPW.out.low b4
      have HG := Lib.hid (get_any tb mb k L.length T p w4 ((HH.out.below bk).below b4) (by omega))
      rw [hgn] at HG
      obtain ⟨x0, _⟩ := E4.cells
      simp only [] at x0
      have HE4 := Lib.hid E4
      have HP4 := Lib.hid P4
      unfold meA at HLD HST
      simp only at HLD HST HG
      unfold ndV at HG
      replace b4 := bk.trans (b4.mono bk.size)
      have hnw : wr.heap.size < w4.heap.size := MeB.lt E4
      clear hst he hmem hTp hgn hpl M9 E4 P4 bk HPW
      go_wp2_with (first | (refine wpList_load_run HLD.out rfl rfl rfl ?_) | (refine wpList_store_run HST.out rfl rfl rfl rfl ?_))
      refine HG.out.mono ?_
      rintro e w5 ⟨rfl, b5⟩
      obtain ⟨w6, hst6, N6, b6, hz6⟩ := newN w5 n
      unfold ndV at hst6
      have HS6 := Lib.hid hst6
      have b56 := b5.trans (b6.mono b5.size)
      have E6 := HE4.out.below b56
      have P6 := HP4.out.low b56
      replace b6 := b4.trans (b56.mono b4.size)
      clear hst6 hz6 x0 b5 b56 b4 HE4 HP4 HG HLD HST
      go_upto_region 8 with (refine wpList_store_run HS6.out rfl rfl rfl rfl ?_)
      have hcj := P6.at hlt
      rw [hgd] at hcj
      obtain ⟨x0, x1, x2, x3, x4, x5, x6, x7⟩ := E6.cells
      obtain ⟨⟨c0, c1, c2, c3, c4, c5, c6⟩, _⟩ := N6.cells
      simp only [] at hcj x0 x1 x2 x3 x4 x5 x6 x7
      have heq : ∀ W : World, (binOp .neq 40 (.agg #[.string n.data, .int .i64 n.ver, .int .i64 n.below, .int .i64 n.owner, .int .i64 n.made, .int .i64 n.put, .int .i64 n.serial]) (.agg #[.string n.data, .int .i64 n.ver, .int .i64 n.below, .int .i64 n.owner, .int .i64 n.made, .int .i64 n.put, .int .i64 n.serial])).run Tryz.prog W = .ok (.bool false) W := eq_nd n
      have HP6 := Lib.hid P6
      clear N6 E6 P6 HS6
      go_quiet (fail)
      have b9 := drewN_below w6 nq
      have HP9 := Lib.hid (HP6.out.low b9)
      replace b9 := b6.trans (b9.mono b6.size)
      obtain ⟨w9, hw9⟩ : ∃ w9, w9 = w6.drewN nq := ⟨_, rfl⟩
      rw [← hw9] at b9 HP9 ⊢
      clear hw9 heq hcj x0 x1 x2 x3 x4 x5 x6 x7 c0 c1 c2 c3 c4 c5 c6
      go_wp2_with fail
      go_roundw
      case rel => exact ⟨j + 1, by omega, by go_num, HP9, b9⟩
      case measure => simp [intOf]; omega
    · obtain rfl : j = L.length := by omega
      have hlt2 : decide ((L.length : Int) < (L.length : Int)) = false := by simp
      go_wp2_with fail
      go_ret
      exact ⟨rfl, bk⟩
end Go.Proofs.YtblcpihfnpgfiaaGreatDoor
