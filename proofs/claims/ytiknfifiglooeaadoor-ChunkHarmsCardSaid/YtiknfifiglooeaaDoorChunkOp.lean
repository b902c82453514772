/- Open: a store on any device. No conditions beyond those in each statement. -/
import Derived.Test.YtiknfifiglooeaaDoorChunkCl
namespace Go.Proofs.YtiknfifiglooeaaDoor
open Go Go.RowKit Go.Proofs.Tryd
set_option linter.unusedVariables false
set_option maxRecDepth 100000

/-- What a round of Open's inner loop makes of the list and the area: the copy read last is taken if its index is greater. -/
noncomputable def openS (D : Dv) (base ar n : Int) (p : Ls × Int) : Ls × Int := if p.1.index < (copyF D (base + ar * 66 + n)).1.index then ((copyF D (base + ar * 66 + n)).1, ar) else p
/-- The copies, in Open's order. -/
def opnQ : List (Int × Int) := [(0, 0), (0, 1), (1, 0), (1, 1)]
/-- What Open answers: the list and the area, or an error. -/
noncomputable def openF (D : Dv) (base : Int) : List (Int × Int) → Ls × Int → (Ls × Int) × Int
  | [], p => (p, 0)
  | (ar, n) :: qs, p => if (copyF D (base + ar * 66 + n)).2 = 0 then openF D base qs (openS D base ar n p) else (p, (copyF D (base + ar * 66 + n)).2)
theorem openF_cons (D : Dv) (base ar n : Int) (qs : List (Int × Int)) (p : Ls × Int) : openF D base ((ar, n) :: qs) p = if (copyF D (base + ar * 66 + n)).2 = 0 then openF D base qs (openS D base ar n p) else (p, (copyF D (base + ar * 66 + n)).2) := rfl
/-- What Open's loops start a round from: the first j copies read, without an error. -/
def OpR (w : World) (b B : Nat) (base : Int) (D : Dv) (j : Nat) (wr : World) : Prop :=
  ∃ (p : Ls × Int) (sv : Value), openF D base opnQ (ls0, 0) = openF D base (opnQ.drop j) p ∧ CsB wr b B base p.1.index p.1.term p.1.bytes sv p.2 ∧ wr.ownsRow w.heap.size 70 1 sv p.1.sums.length (smCells p.1.sums) ∧ Below w.heap.size w wr
set_option maxHeartbeats 8000000 in
theorem copen_any {m : Nat} {E : Nat → Prop} {w : World} {B : Nat} {D : Dv} (base : Int) (hd : DevW m E w B D) (hb : 0 ≤ base ∧ base ≤ 1000000000) (hroom : base + 132 ≤ (D.bs.length : Int)) (hbig : D.bs.length ≤ 1000000000) (ht : Tabs w) (hw : D.writes ≤ 1073741824) :
    Calls Tryd.prog 34 #[.pointer (some ⟨B, 0, none⟩), .int .i64 base] w fun e w' => Below w.heap.size w w' ∧ (((openF D base opnQ (ls0, 0)).2 ≠ 0 ∧ e = .returned (.tuple #[.pointer none, .int .i64 (openF D base opnQ (ls0, 0)).2])) ∨
      ((openF D base opnQ (ls0, 0)).2 = 0 ∧ ∃ b sv, e = .returned (.tuple #[.pointer (some ⟨b, 0, none⟩), .int .i64 0]) ∧ w.heap.size ≤ b ∧ CsB w' b B base (openF D base opnQ (ls0, 0)).1.1.index (openF D base opnQ (ls0, 0)).1.1.term (openF D base opnQ (ls0, 0)).1.1.bytes sv (openF D base opnQ (ls0, 0)).1.2 ∧ w'.ownsRow w.heap.size 70 1 sv (openF D base opnQ (ls0, 0)).1.1.sums.length (smCells (openF D base opnQ (ls0, 0)).1.1.sums))) := by
  have HSZ : Hid (Calls Tryd.prog 67 #[.pointer (some ⟨B, 0, none⟩)] w fun e w' => e = .returned (.int .i64 D.bs.length) ∧ w = w') := by
    obtain ⟨S, hS, _⟩ := hd
    exact size_any hS
  obtain ⟨L, hL⟩ : ∃ L, L = (D.bs.length : Int) := ⟨_, rfl⟩
  have HLL := Lib.hid hL
  have q1 : decide (base < (0 : Int)) = false := by simp; omega
  have q2 : decide (base > L - 132) = false := by simp; omega
  have q2' : decide (L - 132 < base) = false := by simp; omega
  have q3 : IntKind.i64.wrap (L - 132) = L - 132 := IntWalk.i64_in _ (by omega)
  rw [← hL] at HSZ
  have HDV := Lib.hid (fun (W : World) (h : Below w.heap.size w W) => hd.below h)
  have HTB := Lib.hid (fun (W : World) (h : Below w.heap.size w W) => ht.below h)
  have HWW := Lib.hid hw
  have HBA := Lib.hid hb
  clear hd ht hL hroom hw hb hbig
  go_enter Tryd.func34, Tryd.ntmps34
  go_wp2_with fail
  refine HSZ.out.mono ?_
  rintro e w1 ⟨rfl, rfl⟩
  clear HSZ
  go_wp2_with fail
  have C0 : CsB (w.alloc (.cells #[.pointer (some ⟨B, 0, none⟩), .int .i64 base, .int .i64 0, .int .i64 0, .int .i64 0, .slice none 0 0, .int .i64 0] 142)) w.heap.size B base 0 0 0 (.slice none 0 0) 0 := heap_alloc_new w _
  have B0 := (Below.refl w.heap.size w).alloc (Nat.le_refl _) (.cells #[.pointer (some ⟨B, 0, none⟩), .int .i64 base, .int .i64 0, .int .i64 0, .int .i64 0, .slice none 0 0, .int .i64 0] 142)
  generalize w.alloc (.cells #[.pointer (some ⟨B, 0, none⟩), .int .i64 base, .int .i64 0, .int .i64 0, .int .i64 0, .slice none 0 0, .int .i64 0] 142) = w1 at C0 B0 ⊢
  have RR : OpR w w.heap.size B base D 0 w1 := ⟨(ls0, 0), .slice none 0 0, rfl, C0, World.ownsRow_nil _ _ _ _, B0⟩
  clear C0 B0 q1 q2 q2' q3
  go_loopw [24] (fun z wr => ∃ k : Nat, k ≤ 2 ∧ z = .int .i64 (k : Int) ∧ OpR w w.heap.size B base D (2 * k) wr) (fun z _ => 2 - (intOf z).toNat)
  case atStart => exact ⟨0, Nat.zero_le _, rfl, RR⟩
  case round =>
    obtain ⟨k, hk, rfl, Rk⟩ := hrel
    clear RR
    by_cases hlt : k < 2
    · have hlt' : (k : Int) < 2 := by omega
      have hk0 : (0 : Int) ≤ (k : Int) := by omega
      go_wp2_with fail
      go_loopw [27] (fun z wx => ∃ n : Nat, n ≤ 2 ∧ z = .int .i64 (n : Int) ∧ OpR w w.heap.size B base D (2 * k + n) wx) (fun z _ => 2 - (intOf z).toNat)
      case atStart => exact ⟨0, Nat.zero_le _, rfl, Rk⟩
      case round =>
        obtain ⟨n, hn, rfl, p, sv, hF, Cn, On, Bn⟩ := hrel
        clear Rk
        by_cases hln : n < 2
        · have hln' : (n : Int) < 2 := by omega
          have hn0 : (0 : Int) ≤ (n : Int) := by omega
          have hdrop : opnQ.drop (2 * k + n) = ((k : Int), (n : Int)) :: opnQ.drop (2 * k + (n + 1)) := by
            have h4 : (k = 0 ∧ n = 0) ∨ (k = 0 ∧ n = 1) ∨ (k = 1 ∧ n = 0) ∨ (k = 1 ∧ n = 1) := by omega
            rcases h4 with ⟨rfl, rfl⟩ | ⟨rfl, rfl⟩ | ⟨rfl, rfl⟩ | ⟨rfl, rfl⟩ <;> rfl
          rw [hdrop] at hF
          clear hdrop
          obtain ⟨l', er, hc⟩ : ∃ l' er, copyF D (base + (k : Int) * 66 + (n : Int)) = (l', er) := ⟨_, _, rfl⟩
          have hFx : openF D base opnQ (ls0, 0) = if er = 0 then openF D base (opnQ.drop (2 * k + (n + 1))) (if p.1.index < l'.index then (l', (k : Int)) else p) else (p, er) := by
            rw [hF, openF_cons]
            unfold openS
            rw [hc]
          have HRC := Lib.hid (creadc_any (k : Int) (n : Int) Cn (HDV.out wr Bn) HBA.out ⟨hk0, by omega⟩ ⟨hn0, by omega⟩ (HTB.out wr Bn) HWW.out)
          rw [hc] at HRC
          have HFX := Lib.hid hFx
          have HCN := Lib.hid Cn
          have HON := Lib.hid On
          have HBN := Lib.hid Bn
          clear hF hc hFx Cn On Bn
          go_wp2_with fail
          refine HRC.out.mono ?_
          rintro e w4 ⟨sv', rfl, O4, B4⟩
          clear HRC
          have C4 := HCN.out.below B4
          have O0 := World.ownsRow_below HON.out B4
          have B5 := HBN.out.trans (B4.mono HBN.out.size)
          obtain ⟨sa, sc, rfl⟩ := slice_of O4
          have hsz := HBN.out.size
          have O5 : w4.ownsRow w.heap.size 70 1 (.slice sa l'.sums.length sc) l'.sums.length (smCells l'.sums) := ⟨O4.1, O4.2.imp id (fun ⟨g, cp, cur, e1, e2, e3⟩ => ⟨g, cp, cur, e1, Nat.le_trans hsz e2, e3⟩)⟩
          have HC4 := Lib.hid C4
          have HO0 := Lib.hid O0
          have HO5 := Lib.hid O5
          have HB5 := Lib.hid B5
          clear C4 O0 O4 O5 B5 B4 HCN HON HBN hsz
          unfold lsV
          simp only
          by_cases her : er = 0
          case neg =>
            have her' : (er != 0) = true := by simp [her]
            have HFR : Hid (openF D base opnQ (ls0, 0) = (p, er)) := by show _ = _; rw [HFX.out, if_neg her]
            go_wp2_with fail
            refine bodyPost_ret (v := .tuple #[.pointer none, .int .i64 er]) (by simp [results, Tryd.results34, go_sem]) rfl ?_
            refine ⟨HB5.out.alloc HB5.out.size _, .inl ?_⟩
            rw [HFR.out]
            exact ⟨her, rfl⟩
          subst her
          have L5 := LsB.new w4 l'.index l'.term l'.bytes (.slice sa l'.sums.length sc)
          have bA := (Below.refl w4.heap.size w4).alloc (Nat.le_refl _) (.cells #[.int .i64 l'.index, .int .i64 l'.term, .int .i64 l'.bytes, .slice sa l'.sums.length sc] 67)
          have u1 : ¬ w.heap.size = w4.heap.size := Nat.ne_of_lt HC4.out.lt
          have u2 : ¬ w4.heap.size = w.heap.size := Nat.ne_of_gt HC4.out.lt
          obtain ⟨lb, hlb⟩ : ∃ b, b = w4.heap.size := ⟨_, rfl⟩
          rw [← hlb] at L5 u1 u2
          go_upto_region 13 with fail
          rw [← hlb]
          generalize w4.alloc (.cells #[.int .i64 l'.index, .int .i64 l'.term, .int .i64 l'.bytes, .slice sa l'.sums.length sc] 67) = w5 at L5 bA ⊢
          have C5 := HC4.out.below bA
          obtain ⟨⟨y0, y1, y2, y3⟩, _⟩ := L5.cells
          obtain ⟨⟨z0, z1, z2, z3, z4, z5, z6⟩, _, f2, f3, f4, f5⟩ := C5.cells
          have HL5 := Lib.hid L5
          have HC5 := Lib.hid C5
          have HO5' := Lib.hid (World.ownsRow_below HO5.out bA)
          have HO0' := Lib.hid (World.ownsRow_below HO0.out bA)
          have HB5' := Lib.hid (HB5.out.trans (bA.mono HB5.out.size))
          clear L5 C5 bA HC4 HO0 HO5 HB5 hlb
          by_cases hg : p.1.index < l'.index
          · have g1 : decide (p.1.index < l'.index) = true := decide_eq_true hg
            have g2 : decide (l'.index > p.1.index) = true := decide_eq_true hg
            have HFR : Hid (openF D base opnQ (ls0, 0) = openF D base (opnQ.drop (2 * k + (n + 1))) (l', (k : Int))) := by show _ = _; rw [HFX.out, if_pos rfl, if_pos hg]
            clear HFX hg
            go_region_held3 (fun w' => w'.cell? ⟨lb, 0, none⟩ = some (.int .i64 l'.index) ∧ w'.cell? ⟨w.heap.size, 2, none⟩ = some (.int .i64 p.1.index)) (first | (with_reducible assumption) | (refine ⟨?_, ?_⟩ <;> with_reducible assumption) | go_keep) (fail)
            all_goals
              go_wp2_with fail
              have hne : some w.heap.size ≠ (Value.slice sa l'.sums.length sc).ownBlock := fun e => by
                obtain ⟨cs, hcs⟩ := ownsRow_block HO5'.out e.symm
                have hC := HC5.out
                unfold CsB at hC
                rw [hcs] at hC
                simp at hC
              have C6 : CsB ((setCl w5 w.heap.size l'.index l'.term l'.bytes (.slice sa l'.sums.length sc)).setCell ⟨w.heap.size, 6, none⟩ (.int .i64 (k : Int))).drew w.heap.size B base l'.index l'.term l'.bytes (.slice sa l'.sums.length sc) (k : Int) := (HC5.out.setList l'.index l'.term l'.bytes (.slice sa l'.sums.length sc)).setArea (k : Int)
              have O6 : ((setCl w5 w.heap.size l'.index l'.term l'.bytes (.slice sa l'.sums.length sc)).setCell ⟨w.heap.size, 6, none⟩ (.int .i64 (k : Int))).drew.ownsRow w.heap.size 70 1 (.slice sa l'.sums.length sc) l'.sums.length (smCells l'.sums) := ownsRow_same HO5'.out (fun j hj => (block_setCell_other (fun e => hne (by rw [hj, e]))).trans (setCl_other (fun e => hne (by rw [hj, e]))))
              have B6 := ((below_setCl HB5'.out (Nat.le_refl _) l'.index l'.term l'.bytes (.slice sa l'.sums.length sc)).setCell (p := ⟨w.heap.size, 6, none⟩) (Nat.le_refl _) (.int .i64 (k : Int))).drew
              go_roundw
              case rel => exact ⟨n + 1, by omega, by go_num, (l', (k : Int)), .slice sa l'.sums.length sc, HFR.out, C6, O6, B6⟩
              case measure => simp [intOf]; omega
          · have g1 : decide (p.1.index < l'.index) = false := decide_eq_false hg
            have g2 : decide (l'.index > p.1.index) = false := decide_eq_false hg
            have HFR : Hid (openF D base opnQ (ls0, 0) = openF D base (opnQ.drop (2 * k + (n + 1))) p) := by show _ = _; rw [HFX.out, if_pos rfl, if_neg hg]
            clear HFX hg
            go_region_held3 (fun w' => w'.cell? ⟨lb, 0, none⟩ = some (.int .i64 l'.index) ∧ w'.cell? ⟨w.heap.size, 2, none⟩ = some (.int .i64 p.1.index)) (first | (with_reducible assumption) | (refine ⟨?_, ?_⟩ <;> with_reducible assumption) | go_keep) (fail)
            all_goals
              go_wp2_with fail
              go_roundw
              case rel => exact ⟨n + 1, by omega, by go_num, p, sv, HFR.out, HC5.out, HO0'.out, HB5'.out.drew⟩
              case measure => simp [intOf]; omega
        · obtain rfl : n = 2 := by omega
          have RX : OpR w w.heap.size B base D (2 * (k + 1)) wr := ⟨p, sv, hF, Cn, On, Bn⟩
          clear hF Cn On Bn hln
          go_wp2_with fail
          go_roundw
          case rel => exact ⟨k + 1, by omega, by go_num, RX⟩
          case measure => simp [intOf]; omega
    · obtain rfl : k = 2 := by omega
      obtain ⟨p, sv, hF, Cn, On, Bn⟩ := Rk
      have HF := Lib.hid (show openF D base opnQ (ls0, 0) = (p, 0) from hF)
      clear hF hlt
      go_wp2_with fail
      refine bodyPost_ret (v := .tuple #[.pointer (some ⟨w.heap.size, 0, none⟩), .int .i64 0]) (by simp [results, Tryd.results34, go_sem]) rfl ?_
      refine ⟨Bn, .inr ⟨by rw [HF.out], w.heap.size, sv, rfl, Nat.le_refl _, ?_, ?_⟩⟩
      · rw [HF.out]; exact Cn
      · rw [HF.out]; exact On
end Go.Proofs.YtiknfifiglooeaaDoor
