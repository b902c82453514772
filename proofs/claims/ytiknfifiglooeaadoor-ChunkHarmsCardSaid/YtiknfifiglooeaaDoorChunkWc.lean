/- The writing of a list's copies. No conditions beyond those in each statement. -/
import Derived.Test.YtiknfifiglooeaaDoorChunkWr
namespace Go.Proofs.YtiknfifiglooeaaDoor
open Go.RowKit
set_option linter.unusedVariables false
set_option maxRecDepth 100000

/-- Two blocks, one after the other, each made durable. -/
noncomputable def Dv.pair (D : Dv) (x y : Int) (r : Rc) : Int × Dv := if (D.one x r).1 = 0 then (D.one x r).2.one y r else D.one x r
theorem pair_stop {D : Dv} {x y : Int} {r : Rc} (h : (D.one x r).1 ≠ 0) : D.pair x y r = D.one x r := by unfold Dv.pair; rw [if_neg h]
theorem pair_go {D : Dv} {x y : Int} {r : Rc} (h : (D.one x r).1 = 0) : D.pair x y r = (D.one x r).2.one y r := by unfold Dv.pair; rw [if_pos h]
theorem SmR.keep {E : Nat → Prop} {w x : World} {sv : Value} {ss : List Int} (h : SmR w sv ss) (k : Kept E w x) (hv : ∀ g, sv.ownBlock = some g → E g) (hs : w.heap.size ≤ x.heap.size) : SmR x sv ss := by
  obtain ⟨a, cap, rfl, hn, h, hz⟩ := h
  refine ⟨a, cap, rfl, hn, h.imp id ?_, hz⟩
  rintro ⟨g, rfl, hg, hc⟩
  refine ⟨g, rfl, Nat.lt_of_lt_of_le hg hs, fun j hj => ?_⟩
  have e := k g (hv g rfl)
  simp only [World.cell?, e] at hc ⊢
  exact hc j hj
section
variable {m : Nat} {E : Nat → Prop} {w : World} {B b : Nat} {D : Dv} {base i t n area : Int} {sv : Value}
/-- Which block is written in the k-th round, and what the device is then. -/
def wcB (base ar f : Int) (k : Nat) : Int := base + ar * 66 + (if k = 0 then f else 1 - f)
noncomputable def wcD (D : Dv) (base ar f : Int) (r : Rc) : Nat → Dv
  | 0 => D
  | 1 => (D.one (wcB base ar f 0) r).2
  | _ => ((D.one (wcB base ar f 0) r).2.one (wcB base ar f 1) r).2
set_option maxHeartbeats 4000000 in
theorem cwritec_any (ar f : Int) (l : Ls) (lv : Value) (h : DevW m E w B D) (hs : CsB w b B base i t n sv area) (hE : E b) (hm : m ≤ w.heap.size) (ht : ∀ x, Below m w x → Tabs x) (hw : D.writes ≤ 1073740000)
    (hl : SmR w lv l.sums) (hv : ∀ g, lv.ownBlock = some g → E g) (hb : 0 ≤ l.bytes ∧ l.bytes ≤ 281474976710655) (hba : 0 ≤ base ∧ base ≤ 1000000000) (ha : 0 ≤ ar ∧ ar ≤ 1) (hf : f = 0 ∨ f = 1) :
    Calls Tryd.prog 81 #[.pointer (some ⟨b, 0, none⟩), .int .i64 ar, .int .i64 f, lsV l lv] w fun e w' =>
      e = .returned (.int .i64 (D.pair (wcB base ar f 0) (wcB base ar f 1) (listR l)).1) ∧ DevW m E w' B (D.pair (wcB base ar f 0) (wcB base ar f 1) (listR l)).2 ∧ Below m w w' ∧ Kept E w w' := by
  obtain ⟨la, lcap, rfl, hln, hjunk⟩ := id hl
  clear hjunk
  have b1 := (Below.refl w.heap.size w).alloc (Nat.le_refl _) (.cells #[.int .i64 l.index, .int .i64 l.term, .int .i64 l.bytes, .slice la l.sums.length lcap] 67)
  have L1 := LsB.new w l.index l.term l.bytes (.slice la l.sums.length lcap)
  have H1 := h.growAllC b1
  have S1 := hs.below b1
  have M1 := hl.below b1
  have hm1 := Nat.le_trans hm b1.size
  have hbm := b1.mono hm
  have HHK : Hid (Kept E w (w.alloc (.cells #[.int .i64 l.index, .int .i64 l.term, .int .i64 l.bytes, .slice la l.sums.length lcap] 67))) := Kept.of_below h.lt b1
  have hgl : w.heap.size < (w.alloc (.cells #[.int .i64 l.index, .int .i64 l.term, .int .i64 l.bytes, .slice la l.sums.length lcap] 67)).heap.size := L1.lt
  have w0 := c_one_writes D (wcB base ar f 0) (listR l)
  have w1' := c_one_writes (D.one (wcB base ar f 0) (listR l)).2 (wcB base ar f 1) (listR l)
  have HWD : Hid (∀ k, (wcD D base ar f (listR l) k).writes ≤ 1073741000) := by
    intro k
    rcases k with _ | _ | k
    · show D.writes ≤ _; omega
    · show (D.one (wcB base ar f 0) (listR l)).2.writes ≤ _; omega
    · show ((D.one (wcB base ar f 0) (listR l)).2.one (wcB base ar f 1) (listR l)).2.writes ≤ _; omega
  have HT := Lib.hid (fun (x : World) (hx : Below m (w.alloc (.cells #[.int .i64 l.index, .int .i64 l.term, .int .i64 l.bytes, .slice la l.sums.length lcap] 67)) x) => ht x (hbm.trans hx))
  have HV := Lib.hid hv
  clear h hs hl ht w0 w1'
  unfold lsV
  go_enter Tryd.func81, Tryd.ntmps81
  go_upto_region 1 with fail
  generalize w.alloc (.cells #[.int .i64 l.index, .int .i64 l.term, .int .i64 l.bytes, .slice la l.sums.length lcap] 67) = w1 at L1 H1 S1 M1 hm1 hbm HHK hgl HT b1 ⊢
  have RL : DevW m (fun k => E k ∨ (w.heap.size ≤ k ∧ k < w1.heap.size)) w1 B (wcD D base ar f (listR l) 0) := H1
  have HS1 := Lib.hid S1
  have HL1 := Lib.hid L1
  have HM1 := Lib.hid M1
  clear H1 S1 L1 M1
  go_wp2_with fail
  go_loopw [11] (fun z wr => ∃ k : Nat, k ≤ 2 ∧ z = .int .i64 (k : Int) ∧ (1 ≤ k → (D.one (wcB base ar f 0) (listR l)).1 = 0) ∧ (2 ≤ k → ((D.one (wcB base ar f 0) (listR l)).2.one (wcB base ar f 1) (listR l)).1 = 0) ∧ DevW m (fun k => E k ∨ (w.heap.size ≤ k ∧ k < w1.heap.size)) wr B (wcD D base ar f (listR l) k) ∧ Below m w1 wr ∧ Kept (fun k => E k ∨ (w.heap.size ≤ k ∧ k < w1.heap.size)) w1 wr) (fun z _ => 2 - (intOf z).toNat)
  case atStart => exact ⟨0, by omega, rfl, fun h => by omega, fun h => by omega, RL, Below.refl _ _, Kept.refl _ _⟩
  case round =>
    obtain ⟨k, hk, rfl, hk1, hk2, Dk, Bk, Kk⟩ := hrel
    clear RL
    by_cases hlt : k < 2
    · have hlt' : (k : Int) < 2 := by omega
      have hk0 : (0 : Int) ≤ (k : Int) := by omega
      have Sk := HS1.out.keep Kk (Or.inl hE)
      have Lk : LsB wr w.heap.size l.index l.term l.bytes (.slice la l.sums.length lcap) := (Kk w.heap.size (Or.inr ⟨Nat.le_refl _, hgl⟩)).trans HL1.out
      have Mk := HM1.out.keep Kk (fun g hg => Or.inl (HV.out g hg)) Bk.size
      have hmk := Nat.le_trans hm1 Bk.size
      obtain ⟨q, hq⟩ : ∃ q : Int, q = (if k = 0 then f else 1 - f) := ⟨_, rfl⟩
      have hq2 : (k = 0 ∧ q = f) ∨ (k = 1 ∧ q = 1 - f) := by
        rcases (show k = 0 ∨ k = 1 by omega) with rfl | rfl
        · exact .inl ⟨rfl, by rw [hq]; rfl⟩
        · exact .inr ⟨rfl, by rw [hq]; rfl⟩
      have hq1 : 0 ≤ q ∧ q ≤ 1 := by clear hq hk1 hk2; omega
      have e1 : IntKind.i64.wrap (f + (k : Int)) = f + (k : Int) := IntWalk.i64_in _ (by clear hq hk1 hk2; omega)
      have e2 : (f + (k : Int)).tmod 2 = q := by
        clear hq hk1 hk2
        rw [Int.tmod_eq_emod_of_nonneg (by omega)]
        omega
      have hblk : base + ar * 66 + q = wcB base ar f k := by unfold wcB; rw [hq]
      have HCB := Lib.hid (fun (W : World) (hb' : Below wr.heap.size wr W) => ccopyb_any (Sk.below hb') ar q hba ha ⟨hq1.1, Int.le_trans hq1.2 (by decide)⟩)
      rw [hblk] at HCB
      have HLR := Lib.hid (fun (W : World) (hb' : Below wr.heap.size wr W) => clistr_any l _ W (Mk.below hb') hb)
      unfold lsV recV at HLR
      have HST := Lib.hid (fun (W : World) (hb' : Below wr.heap.size wr W) => cstore_any (wcB base ar f k) (listR l) (Dk.below hb') (Sk.below hb') (Or.inl hE) (Nat.le_trans hmk hb'.size) (fun x hx => HT.out x (Bk.trans ((hb'.mono hmk).trans hx))) (HWD.out k))
      unfold recV at HST
      obtain ⟨⟨l0, l1, l2, l3⟩, _⟩ := Lk.cells
      have HLK := Lib.hid (fun (W : World) (hb' : Below wr.heap.size wr W) => (Lk.below hb').cells.1)
      have HLB := Lib.hid (fun (W : World) (hb' : Below wr.heap.size wr W) => show LsB W w.heap.size l.index l.term l.bytes (.slice la l.sums.length lcap) from Lk.below hb')
      have bd := (Below.refl wr.heap.size wr).drew
      have HK := Lib.hid Kk
      have HBk := Lib.hid Bk
      have HDl := Lib.hid Dk.lt
      have HKK : Hid (k < 2) := hlt
      clear Sk Lk Mk Dk Kk Bk hq hblk hq2
      go_wp2_with fail
      go_cut [10] (fun v wx => v = .int .i64 ((wcD D base ar f (listR l) k).one (wcB base ar f k) (listR l)).1 ∧ DevW m (fun k => E k ∨ (w.heap.size ≤ k ∧ k < w1.heap.size)) wx B ((wcD D base ar f (listR l) k).one (wcB base ar f k) (listR l)).2 ∧ Below m w1 wx ∧ Kept (fun k => E k ∨ (w.heap.size ≤ k ∧ k < w1.heap.size)) w1 wx)
      case first =>
        go_region_held3 (fun w' => w'.cell? ⟨w.heap.size, 0, none⟩ = some (.int .i64 l.index) ∧ w'.cell? ⟨w.heap.size, 1, none⟩ = some (.int .i64 l.term) ∧ w'.cell? ⟨w.heap.size, 2, none⟩ = some (.int .i64 l.bytes) ∧ w'.cell? ⟨w.heap.size, 3, none⟩ = some (.slice la l.sums.length lcap)) (first | (with_reducible assumption) | (refine ⟨?_, ?_, ?_, ?_⟩ <;> with_reducible assumption) | go_keep)
          ((first
            | (go_at_call 110; refine (HCB.out _ ?hBa).mono ?_; (case hBa => first | (with_reducible exact b3) | (with_reducible exact bd)); rintro e w2 ⟨rfl, rfl⟩)
            | (go_at_call 115; refine (HLR.out _ bd).mono ?_; rintro e w3 ⟨rfl, hb3⟩; have b3 := bd.trans (hb3.mono bd.size); obtain ⟨k0, k1, k2, k3⟩ := HLK.out w3 b3)
            | (go_at_call 88; refine (HST.out _ b3).mono ?_; rintro e w4 ⟨rfl, D4, b4, k4⟩; have L4 : LsB w4 w.heap.size l.index l.term l.bytes (.slice la l.sums.length lcap) := (k4 w.heap.size (Or.inr ⟨Nat.le_refl _, hgl⟩)).trans ((HLB.out w3 b3)); obtain ⟨⟨m0, m1, m2, m3⟩, _⟩ := L4.cells)))
        all_goals (go_wp2_with fail; go_meet)
        all_goals exact ⟨rfl, D4, HBk.out.trans ((b3.mono hmk).trans b4), fun j hj => (k4 j hj).trans ((b3.block j (HDl.out j hj)).trans (HK.out j hj))⟩
      case rest =>
        obtain ⟨rfl, D5, B5, K5⟩ := hcut
        clear HCB HLR HST HLK HLB bd l0 l1 l2 l3
        by_cases hz : ((wcD D base ar f (listR l) k).one (wcB base ar f k) (listR l)).1 = 0
        · rw [hz]
          go_wp2_with fail
          go_roundw
          case rel =>
            refine ⟨k + 1, by omega, by go_num, fun _ => ?_, fun h2 => ?_, ?_, B5, K5⟩
            · rcases k with _ | k
              · exact hz
              · exact hk1 (by omega)
            · obtain rfl : k = 1 := by omega
              exact hz
            · rcases k with _ | _ | k
              · exact D5
              · exact D5
              · omega
          case measure => simp [intOf]; omega
        · have hz2 : (((wcD D base ar f (listR l) k).one (wcB base ar f k) (listR l)).1 == 0) = false := by simp [hz]
          have hz3 : (((wcD D base ar f (listR l) k).one (wcB base ar f k) (listR l)).1 != 0) = true := by simp [hz]
          have HP : Hid (D.pair (wcB base ar f 0) (wcB base ar f 1) (listR l) = (wcD D base ar f (listR l) k).one (wcB base ar f k) (listR l)) := by
            show _ = _
            rcases k with _ | _ | k
            · exact pair_stop hz
            · exact pair_go (hk1 (by omega))
            · omega
          go_wp2_with fail
          go_ret
          rw [HP.out]
          exact ⟨rfl, D5.less (fun j hj => Or.inl hj), hbm.trans B5, HHK.out.trans (K5.mono (fun j hj => Or.inl hj))⟩
    · obtain rfl : k = 2 := by omega
      have HP : Hid (D.pair (wcB base ar f 0) (wcB base ar f 1) (listR l) = (D.one (wcB base ar f 0) (listR l)).2.one (wcB base ar f 1) (listR l)) := pair_go (hk1 (by omega))
      have HZ := Lib.hid (hk2 (Nat.le_refl _))
      have HD := Lib.hid Dk
      clear Dk hlt
      go_wp2_with fail
      go_ret
      rw [HP.out, HZ.out]
      exact ⟨rfl, HD.out.less (fun j hj => Or.inl hj), hbm.trans Bk, HHK.out.trans (Kk.mono (fun j hj => Or.inl hj))⟩
end
end Go.Proofs.YtiknfifiglooeaaDoor
