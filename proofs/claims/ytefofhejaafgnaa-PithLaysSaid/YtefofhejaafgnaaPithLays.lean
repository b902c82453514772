/- PithLays: at most 20 parts with texts of at most 300 bytes, laid one behind the other, have the bytes that the chapter gives and are read again as they were; no condition on the input. -/
import Derived.Test.YtefofhejaafgnaaParts
import Derived.Deep.RegionWith
import Derived.Deep.RegionHeld3
import Derived.Deep.DeepCutAuto
namespace Go.Proofs.Ytefofhejaafgnaa.pithLays
open Go.ChangeShapes Go.WideShapes Go.ChangeAt Go.RowKit
open Go.ChangeMaps (open_string shut_string)
set_option linter.unusedVariables false

/-- Where the two new parts lie, whichever was made first. -/
def Three (w W : World) (q : Nat) (C P : Obj) : Prop := w.heap.size < q ∧ W.heap[q]? = some C ∧ W.heap[w.heap.size]? = some P ∧ Below w.heap.size w W
theorem three_one (w : World) (P C : Obj) : Three w (((w.alloc P).alloc P).alloc C).drew (w.heap.size + 1 + 1) C P := by
  refine ⟨by omega, ?_, ?_, ((((Below.refl _ w).alloc (Nat.le_refl _) P).alloc (by simp) P).alloc (by simp; omega) C).drew⟩
  · have h := heap_alloc_new ((w.alloc P).alloc P) C
    rw [show ((w.alloc P).alloc P).heap.size = w.heap.size + 1 + 1 by simp] at h
    exact h
  · show (((w.alloc P).alloc P).alloc C).heap[w.heap.size]? = some P
    rw [Below.heap_alloc _ _ w.heap.size (by simp; omega), Below.heap_alloc _ _ w.heap.size (by simp)]
    exact heap_alloc_new w P
theorem three_two (w : World) (P C : Obj) : Three w (((w.alloc P).alloc C).alloc P).drew (w.heap.size + 1) C P := by
  refine ⟨by omega, ?_, ?_, ((((Below.refl _ w).alloc (Nat.le_refl _) P).alloc (by simp) C).alloc (by simp; omega) P).drew⟩
  · show (((w.alloc P).alloc C).alloc P).heap[w.heap.size + 1]? = some C
    rw [Below.heap_alloc _ _ (w.heap.size + 1) (by simp)]
    have := heap_alloc_new (w.alloc P) C
    simpa using this
  · show (((w.alloc P).alloc C).alloc P).heap[w.heap.size]? = some P
    rw [Below.heap_alloc _ _ w.heap.size (by simp; omega), Below.heap_alloc _ _ w.heap.size (by simp)]
    exact heap_alloc_new w P

theorem five_0 {wr wc : World} {q : Nat} {x y z : Value} {P : Obj} {T : TypeId} (hQ : wc.heap[q]? = some (.cells #[x, y, z] T (0, 0))) (hP : wc.heap[wr.heap.size]? = some P) (hB : Below wr.heap.size wr wc) (hq : wr.heap.size < q) (O : Obj) :
    (wc.alloc O).heap[q]? = some (.cells #[x, y, z] T (0, 0)) ∧ (wc.alloc O).heap[wr.heap.size]? = some P ∧ Below wr.heap.size wr (wc.alloc O) := by
  refine ⟨?_, ?_, hB.alloc hB.size O⟩
  · rw [Below.heap_alloc _ _ _ (lt_of_block hQ)]; exact hQ
  · rw [Below.heap_alloc _ _ _ (lt_of_block hP)]; exact hP
theorem five_2 {wr wc : World} {q : Nat} {x y z : Value} {P : Obj} {T : TypeId} (hQ : wc.heap[q]? = some (.cells #[x, y, z] T (0, 0))) (hP : wc.heap[wr.heap.size]? = some P) (hB : Below wr.heap.size wr wc) (hq : wr.heap.size < q) (O : Obj) (u : Value) :
    ((wc.alloc O).setCell ⟨q, 1, none⟩ u).heap[q]? = some (.cells #[x, u, z] T (0, 0)) ∧ ((wc.alloc O).setCell ⟨q, 1, none⟩ u).heap[wr.heap.size]? = some P ∧ Below wr.heap.size wr ((wc.alloc O).setCell ⟨q, 1, none⟩ u) := by
  obtain ⟨h1, h2, h3⟩ := five_0 hQ hP hB hq O
  refine ⟨block_setCell h1, ?_, h3.setCell (p := ⟨q, 1, none⟩) (Nat.le_of_lt hq) u⟩
  rw [Below.heap_setCell _ _ _ _ (by simp; omega)]; exact h2
theorem five_1 {wr wc : World} {q : Nat} {x y z : Value} {P : Obj} {T : TypeId} (hQ : wc.heap[q]? = some (.cells #[x, y, z] T (0, 0))) (hP : wc.heap[wr.heap.size]? = some P) (hB : Below wr.heap.size wr wc) (hq : wr.heap.size < q) (O : Obj) (a b c : Value) :
    ((((wc.alloc O).setCell ⟨q, 0, none⟩ a).setCell ⟨q, 1, none⟩ b).setCell ⟨q, 2, none⟩ c).heap[q]? = some (.cells #[a, b, c] T (0, 0)) ∧ ((((wc.alloc O).setCell ⟨q, 0, none⟩ a).setCell ⟨q, 1, none⟩ b).setCell ⟨q, 2, none⟩ c).heap[wr.heap.size]? = some P ∧
      Below wr.heap.size wr ((((wc.alloc O).setCell ⟨q, 0, none⟩ a).setCell ⟨q, 1, none⟩ b).setCell ⟨q, 2, none⟩ c) := by
  obtain ⟨h1, h2, h3⟩ := five_0 hQ hP hB hq O
  refine ⟨block_setCell (block_setCell (block_setCell h1)), ?_, ((h3.setCell (p := ⟨q, 0, none⟩) (Nat.le_of_lt hq) a).setCell (p := ⟨q, 1, none⟩) (Nat.le_of_lt hq) b).setCell (p := ⟨q, 2, none⟩) (Nat.le_of_lt hq) c⟩
  rw [Below.heap_setCell _ _ _ _ (by simp; omega), Below.heap_setCell _ _ _ _ (by simp; omega), Below.heap_setCell _ _ _ _ (by simp; omega)]; exact h2
theorem keep3 {w w' : World} {q rb : Nat} {x y z : Value} {T : TypeId} (h : w.heap[q]? = some (.cells #[x, y, z] T (0, 0))) (hg : w.drew.grownBy w' (some rb)) (hne : q ≠ rb) :
    w'.cell? ⟨q, 0, none⟩ = some x ∧ w'.cell? ⟨q, 1, none⟩ = some y ∧ w'.cell? ⟨q, 2, none⟩ = some z :=
  (cells3 ((hg.block q (lt_of_block h) (by simpa using hne)).trans h)).1
theorem keepE {w w5 w' : World} {rb : Nat} (h : Below w.heap.size w w5) (hg : w5.drew.grownBy w' (some rb)) (hrb : w.heap.size ≤ rb) : Below w.heap.size w w' :=
  h.drew.grown hg h.size (by intro k hk; simp at hk; rw [← hk]; exact hrb)

set_option maxHeartbeats 1000000 in
theorem walk_long (a1 : Option Addr) (len1 cap1 : Nat) (w : World) (hl : 20 < len1) (hcap : len1 ≤ maxLen) :
    Calls Try.prog 3 #[.slice a1 len1 cap1] w fun e w' => e = .returned (.bool true) ∧ Below w.heap.size w w' := by
  unfold maxLen at hcap
  have hd2 : decide ((20 : Int) < (len1 : Int)) = true := by simp; omega
  go_enter Try.func3, Try.ntmps3
  go_wp2_with (go_at_call 10; refine (head_any _).mono ?_; rintro e w1 ⟨rfl, hb⟩)
  go_ret
  exact ⟨rfl, hb⟩

set_option maxRecDepth 100000 in
set_option maxHeartbeats 4000000 in
theorem walk_some (b off len1 cap1 : Nat) (ps : List Pt) (w : World) (hps : ps.length = len1) (h1 : len1 ≤ 20) (a1 : Option Addr) (ha1 : 0 < len1 → a1 = some ⟨b, off, none⟩) (hbw : 0 < len1 → b < w.heap.size)
    (hc : ∀ j, j < len1 → (w.cell? ⟨b, off + j * 3, none⟩ = some (.int .i64 (ps.getD j pt0).k) ∧ w.cell? ⟨b, off + j * 3 + 1, none⟩ = some (.int .i64 (ps.getD j pt0).n) ∧ w.cell? ⟨b, off + j * 3 + 2, none⟩ = some (.string (ps.getD j pt0).s)) ∧
      (-9223372036854775808 ≤ (ps.getD j pt0).n ∧ (ps.getD j pt0).n ≤ 9223372036854775807) ∧ (ps.getD j pt0).s.size ≤ maxLen) :
    Calls Try.prog 3 #[.slice a1 len1 cap1] w fun e w' => e = .returned (.bool true) ∧ Below w.heap.size w w' := by
  have hd2 : decide ((20 : Int) < (len1 : Int)) = false := by simp; omega
  have HC := Lib.hid hc
  have HA := Lib.hid ha1
  have HB := Lib.hid hbw
  have HPS := Lib.hid hps
  clear hc ha1 hbw hps
  go_enter Try.func3, Try.ntmps3
  go_wp2_with (go_at_call 10; refine (head_any _).mono ?_; rintro e w1 ⟨rfl, hb1⟩)
  have hbel := hb1.alloc hb1.size (.cells #[] 5)
  have hbs : Bs (w1.alloc (.cells #[] 5)) w.heap.size (.slice (some ⟨w1.heap.size, 0, none⟩) 0 0) [] :=
    ⟨rfl, .inr ⟨w1.heap.size, 0, #[], rfl, hb1.size, heap_alloc_new w1 _, Nat.le_refl _, by unfold maxLen; omega, rfl, rfl⟩⟩
  clear hb1
  go_loopw [3, 18] (fun x i wr => ∃ k : Nat, k ≤ len1 ∧ i = .int .i64 k ∧ Bs wr w.heap.size x (laysE (ps.take k)) ∧ Hid (∀ j, j < k → (ps.getD j pt0).s.size ≤ 300) ∧ Below w.heap.size w wr) (fun _ i _ => len1 - (intOf i).toNat)
  case atStart => exact ⟨0, Nat.zero_le _, rfl, by simpa [laysE] using hbs, fun j hj => absurd hj (by omega), hbel⟩
  case round =>
    obtain ⟨k, hk, rfl, hown, HLT, hbw⟩ := hrel
    clear hbs hbel
    by_cases hlt : k < len1
    · obtain ⟨⟨c0, c1, c2⟩, ⟨b0, b1⟩, b2⟩ := HC.out k hlt
      have hbb := HB.out (by omega)
      rw [← hbw.cell (p := ⟨b, off + k * 3, none⟩) hbb] at c0
      rw [← hbw.cell (p := ⟨b, off + k * 3 + 1, none⟩) hbb] at c1
      rw [← hbw.cell (p := ⟨b, off + k * 3 + 2, none⟩) hbb] at c2
      have ha := HA.out (by omega)
      subst ha
      have HES := Lib.hid (laysE_snoc ps k (by rw [HPS.out]; exact hlt))
      have HG := Lib.hid (show ∀ j, j < k + 1 → (ps.getD k pt0).s.size ≤ 300 → (ps.getD j pt0).s.size ≤ 300 by
        intro j hj h3
        by_cases hjk : j = k
        · rw [hjk]; exact h3
        · exact HLT.out j (by omega))
      have hlen : (laysE (ps.take k)).length ≤ 1310740 := by
        have := laysE_length (ps.take k)
        rw [List.length_take] at this
        omega
      generalize ps.getD k pt0 = p at *
      obtain ⟨pk, pn, s⟩ := p
      simp only at c0 c1 c2 b0 b1 b2 HG
      unfold maxLen at b2
      by_cases hs3 : 300 < s.size
      · have hds : decide ((300 : Int) < (s.size : Int)) = true := by simp; omega
        have hbe := hbw.alloc hbw.size (.cells #[.int .i64 pk, .int .i64 pn, .string s] 26)
        go_wp2_with fail
        go_ret
        exact ⟨rfl, hbe⟩
      · have hds : decide ((300 : Int) < (s.size : Int)) = false := by simp; omega
        have HLT2 : Hid (∀ j, j < k + 1 → (ps.getD j pt0).s.size ≤ 300) := fun j hj => HG.out j hj (by omega)
        have hsz := hbw.size
        have hbe := (hbw.alloc hsz (.cells #[.int .i64 pk, .int .i64 pn, .string s] 26)).alloc (by simp; omega) (.cells #[.int .i64 pk, .int .i64 pn, .string s] 26)
        have hB2 : Below wr.heap.size wr ((wr.alloc (.cells #[.int .i64 pk, .int .i64 pn, .string s] 26)).alloc (.cells #[.int .i64 pk, .int .i64 pn, .string s] 26)) := ((Below.refl _ wr).alloc (Nat.le_refl _) _).alloc (by simp) _
        have hsrc := hown.src.below hB2
        clear hB2 HG HLT
        by_cases hk0 : kindN pk = 0
        · have HK := Lib.hid (show (0 : Int) = kindN pk by rw [hk0]; rfl)
          have HLE := Lib.hid (show layE ⟨pk, pn, s⟩ = numE pn by unfold layE; rw [if_pos hk0])
          clear hk0
          go_wp2_with (go_at_call 11; refine (kind_any pk pn s 0 HK.out _).mono ?_; rintro e w' ⟨rfl, rfl⟩)
          refine (num_one_at _ _ pn _ _ (by simp) hsrc (by omega) ⟨b0, b1⟩).mono ?_
          rintro e w3 ⟨v3, rfl, ho3, hb3⟩
          rw [← HLE.out, ← HES.out] at ho3
          have ho4 := ho3.mono (C := w.heap.size) (by simp; omega)
          have hb4 := hbe.trans (hb3.mono hbe.size)
          clear ho3 hb3 hbe hsrc hown hbw
          go_wp2_with fail
          go_roundw
          case rel => exact ⟨k + 1, by omega, by go_num, ho4, HLT2, hb4⟩
          case measure => simp [intOf]; omega
        · by_cases hk1 : kindN pk = 1
          · have HK := Lib.hid (show (1 : Int) = kindN pk by rw [hk1]; rfl)
            have HLE := Lib.hid (show layE ⟨pk, pn, s⟩ = textE s.data.toList by unfold layE; rw [if_neg hk0, if_pos hk1])
            clear hk0 hk1
            go_wp2_with (go_at_call 11; refine (kind_any pk pn s 1 HK.out _).mono ?_; rintro e w' ⟨rfl, rfl⟩)
            refine (text_one_at _ _ s _ _ (by simp) hsrc (by omega) (by unfold maxLen; omega)).mono ?_
            rintro e w3 ⟨v3, rfl, ho3, hb3⟩
            rw [← HLE.out, ← HES.out] at ho3
            have ho4 := ho3.mono (C := w.heap.size) (by simp; omega)
            have hb4 := hbe.trans (hb3.mono hbe.size)
            clear ho3 hb3 hbe hsrc hown hbw
            go_wp2_with fail
            go_roundw
            case rel => exact ⟨k + 1, by omega, by go_num, ho4, HLT2, hb4⟩
            case measure => simp [intOf]; omega
          · have hk2 : kindN pk = 2 := by have := kindN_lt pk; omega
            have HK := Lib.hid (show (2 : Int) = kindN pk by rw [hk2]; rfl)
            have HLE := Lib.hid (show layE ⟨pk, pn, s⟩ = flagE (pn % 2 == 1) by unfold layE; rw [if_neg hk0, if_neg hk1]; rfl)
            have hand1 := i64_and1
            clear hk0 hk1 hk2
            go_wp2_with (go_at_call 11; refine (kind_any pk pn s 2 HK.out _).mono ?_; rintro e w' ⟨rfl, rfl⟩)
            refine (flag_one_at _ _ (pn % 2 == 1) _ _ (by simp) hsrc (by omega)).mono ?_
            rintro e w3 ⟨v3, rfl, ho3, hb3⟩
            rw [← HLE.out, ← HES.out] at ho3
            have ho4 := ho3.mono (C := w.heap.size) (by simp; omega)
            have hb4 := hbe.trans (hb3.mono hbe.size)
            clear ho3 hb3 hbe hsrc hown hbw
            go_wp2_with fail
            go_roundw
            case rel => exact ⟨k + 1, by omega, by go_num, ho4, HLT2, hb4⟩
            case measure => simp [intOf]; omega
    · have hkk : ps.take k = ps := List.take_of_length_le (by rw [HPS.out]; omega)
      rw [hkk] at hown
      have hk1 : k = len1 := by omega
      have HLT2 : Hid (∀ j, j < len1 → (ps.getD j pt0).s.size ≤ 300) := by rw [← hk1]; exact HLT
      have hs300 : ∀ j, j < len1 → (ps.getD j pt0).s.size ≤ 300 := HLT2.out
      obtain ⟨X, hX⟩ : ∃ X, X = ByteArray.mk (laysE ps).toArray := ⟨_, rfl⟩
      have HLAY : Hid (∀ W : World, Below w.heap.size w W → Calls Try.prog 15 #[.slice a1 len1 cap1] W fun e w' => e = .returned (.string X) ∧ Below W.heap.size W w') := by
        intro W hW
        by_cases hz : len1 = 0
        · have he : ps = [] := List.eq_nil_of_length_eq_zero (by rw [HPS.out, hz])
          rw [hX, he, hz]
          exact (lay_none a1 cap1 W).mono fun e w' ⟨h1, h2⟩ => ⟨h1, by rw [← h2]; exact Below.refl _ _⟩
        · rw [HA.out (by omega), hX]
          have hbb := HB.out (by omega)
          rw [← HPS.out]
          refine lay_some b off cap1 ps W (Nat.lt_of_lt_of_le hbb hW.size) (fun j hj => ?_) (by rw [HPS.out]; omega)
          obtain ⟨⟨c0, c1, c2⟩, hb0, hb2⟩ := HC.out j (by rw [← HPS.out]; exact hj)
          have h3 := hs300 j (by rw [← HPS.out]; exact hj)
          refine ⟨⟨?_, ?_, ?_⟩, hb0, by omega⟩
          · rw [hW.cell (p := ⟨b, off + j * 3, none⟩) hbb]; exact c0
          · rw [hW.cell (p := ⟨b, off + j * 3 + 1, none⟩) hbb]; exact c1
          · rw [hW.cell (p := ⟨b, off + j * 3 + 2, none⟩) hbb]; exact c2
      have hcv := run_str hown.src
      have hcvd := run_str (hown.src.below ((Below.refl _ wr).drew))
      have hSRC := Lib.hid hown.src
      rw [← hX] at hcv hcvd
      have HX := Lib.hid hX
      have HBW := Lib.hid hbw
      clear hX hs300 hown hkk HLT hbw hk1
      go_upto_region 18 with fail
      go_cut [54] (fun t wx => t = .bool false ∧ Below wr.heap.size wr wx)
      case first =>
        go_region_with (go_at_call 15; refine (HLAY.out _ HBW.out.drew).mono ?_; rintro e w3 ⟨rfl, hb3⟩; have hcv3 := run_str (hSRC.out.below ((Below.refl _ wr).drew.trans hb3)); rw [← HX.out] at hcv3)
        all_goals (go_wp2_with fail; go_meet; exact ⟨rfl, (Below.refl _ wr).drew.trans hb3⟩)
      case rest =>
        obtain ⟨rfl, hb3⟩ := hcut
        have hb4 := HBW.out.trans (hb3.mono HBW.out.size)
        have hcv3 := run_str (hSRC.out.below hb3)
        rw [← HX.out] at hcv3
        clear hcv hcvd HLAY hb3
        go_wp2_with fail
        refine (read_any X _).mono ?_
        rintro e w4 ⟨rfl, hr4, hb5, hs5⟩
        have hr : Rs w4 wc.heap.size (some (laysE ps)) := by
          rw [HX.out] at hr4
          refine ⟨hr4, ?_⟩
          have h1 := laysE_length ps
          rw [HPS.out] at h1
          omega
        have hbel := hb4.trans (hb5.mono hb4.size)
        have hrb := hb4.size
        clear hr4 hb4 hb5 hs5
        generalize wc.heap.size = rb at *
        clear hcv3
        go_wp2_with fail
        go_loopw [60] (fun i wq => ∃ k : Nat, k ≤ len1 ∧ i = .int .i64 k ∧ Rs wq rb (some (laysE (ps.drop k))) ∧ Below w.heap.size w wq) (fun i _ => len1 - (intOf i).toNat)
        case atStart => exact ⟨0, Nat.zero_le _, rfl, hr, hbel⟩
        case round =>
          obtain ⟨k, hk, rfl, hrr, hbw⟩ := hrel
          clear hr hbel
          by_cases hlt : k < len1
          · obtain ⟨⟨c0, c1, c2⟩, ⟨b0, b1⟩, b2⟩ := HC.out k hlt
            have hbb := HB.out (by omega)
            rw [← hbw.cell (p := ⟨b, off + k * 3, none⟩) hbb] at c0
            rw [← hbw.cell (p := ⟨b, off + k * 3 + 1, none⟩) hbb] at c1
            rw [← hbw.cell (p := ⟨b, off + k * 3 + 2, none⟩) hbb] at c2
            have ha := HA.out (by omega)
            subst ha
            have hes : laysE (ps.drop k) = layE (ps.getD k pt0) ++ laysE (ps.drop (k + 1)) := by
              rw [List.drop_eq_getElem_cons (by rw [HPS.out]; exact hlt), laysE, List.flatMap_cons]
              have : ps.getD k pt0 = ps[k]'(by rw [HPS.out]; exact hlt) := by simp [show k < ps.length by rw [HPS.out]; exact hlt]
              rw [this]
              rfl
            have hs3 := HLT2.out k hlt
            rw [hes] at hrr
            clear hes
            obtain ⟨l2, hl2⟩ : ∃ l2, l2 = laysE (ps.drop (k + 1)) := ⟨_, rfl⟩
            rw [← hl2] at hrr
            have HL2 := Lib.hid hl2
            clear hl2
            generalize ps.getD k pt0 = p at *
            obtain ⟨pk, pn, s⟩ := p
            simp only at c0 c1 c2 b0 b1 b2 hs3
            have hrd := readF_E ⟨pk, pn, s⟩ l2 (by rw [← Lib.size_eq]; show s.size ≤ 1000; omega)
            simp only at hrd
            obtain ⟨c, hcK⟩ : ∃ c : Int, c = kindN pk := ⟨_, rfl⟩
            have hc3 : c = 0 ∨ c = 1 ∨ c = 2 := by have := kindN_lt pk; omega
            have HK := Lib.hid hcK
            obtain ⟨mn, hmn⟩ : ∃ mn : Int, min (max pn 0) 281474976710655 = mn := ⟨_, rfl⟩
            have HC3 := Lib.hid hc3
            have HRDE := Lib.hid hrd
            clear hcK hc3 hrd
            have hlr := hrr.lt
            have hB0 := (Below.refl _ wr).alloc (Nat.le_refl _) (.cells #[.int .i64 pk, .int .i64 pn, .string s] 26)
            go_upto_region 24 with fail
            go_cut [9] (fun t wx => ∃ q : Nat, t = .pointer (some ⟨q, 0, none⟩) ∧ wr.heap.size < q ∧ wx.heap[q]? = some (.cells #[.int .i64 c, .int .i64 mn, .string ⟨#[]⟩] 26 (0, 0)) ∧ wx.heap[wr.heap.size]? = some (.cells #[.int .i64 pk, .int .i64 pn, .string s] 26 (0, 0)) ∧ Below wr.heap.size wr wx)
            case first =>
              go_region_held3 (fun w' => w'.cell? ⟨wr.heap.size, 0, none⟩ = some (.int .i64 pk) ∧ w'.cell? ⟨wr.heap.size, 1, none⟩ = some (.int .i64 pn) ∧ w'.cell? ⟨wr.heap.size, 2, none⟩ = some (.string s)) (go_keep)
                (first | (go_at_call 11; refine (kind_any pk pn s c HK.out _).mono ?_; rintro e w' ⟨rfl, rfl⟩))
              all_goals (go_wp2_with fail; go_meet)
              all_goals (first | exact ⟨_, rfl, three_one wr _ _⟩ | exact ⟨_, rfl, three_two wr _ _⟩)
            case rest =>
              obtain ⟨q, rfl, hq, hQ, hP, hB⟩ := hcut
              have hHMN := Lib.hid hmn
              rcases HC3.out with rfl | rfl | rfl
              · have HREAD : Hid (∀ W : World, Rs W rb (some (layE ⟨pk, pn, s⟩ ++ l2)) → Calls Try.prog 17 #[.pointer (some ⟨rb, 0, none⟩), .agg #[.int .i64 pk, .int .i64 pn, .string s]] W fun e w' =>
                    e = .returned (.agg #[.int .i64 0, .int .i64 mn, .string ⟨#[]⟩]) ∧ Rs w' rb (some l2) ∧ W.grownBy w' (some rb)) := fun W hW => by
                  have h := read_rs rb _ pk pn s W hW
                  have hk : kindN pk = 0 := by have := HK.out; omega
                  rw [HRDE.out, hk] at h
                  simpa [partV, hmn] using h
                obtain ⟨w5, hw5, k0, k1, k2⟩ : ∃ w5, w5 = (wc.alloc (.cells #[.int .i64 pk, .int .i64 pn, .string s] 26)) ∧ w5.heap[q]? = some (.cells #[.int .i64 0, .int .i64 mn, .string ⟨#[]⟩] 26 (0, 0)) ∧ w5.heap[wr.heap.size]? = some (.cells #[.int .i64 pk, .int .i64 pn, .string s] 26 (0, 0)) ∧ Below wr.heap.size wr w5 := by
                  refine ⟨_, rfl, ?_⟩
                  exact five_0 hQ hP hB hq _
                have HW5 := Lib.hid hw5
                have hand1 := i64_and1
                clear hw5
                obtain ⟨⟨Q0, Q1, Q2⟩, Q3, Q4, Q5⟩ := cells3 hQ
                obtain ⟨⟨P0, P1, P2⟩, P3⟩ := cells3 hP
                obtain ⟨y1, y2, _⟩ := five_0 hQ hP hB hq (.cells #[.int .i64 pk, .int .i64 pn, .string s] 26)
                obtain ⟨⟨Y0, Y1, Y2⟩, Y3, Y4, Y5⟩ := cells3 y1
                obtain ⟨⟨Z0, Z1, Z2⟩, Z3⟩ := cells3 y2
                clear y1 y2
                go_upto_region 30 with (go_at_call 11; refine (kind_any pk pn s 0 HK.out _).mono ?_; rintro e w' ⟨rfl, rfl⟩)
                rw [← HW5.out]
                clear hand1
                clear Q0 Q1 Q2 Q3 Q4 Q5 P0 P1 P2 P3 Y0 Y1 Y2 Y3 Y4 Y5 Z0 Z1 Z2 Z3
                have hr5 := hrr.below k2
                have hr5d := hr5.below ((Below.refl _ w5).drew)
                have hE5 := hbw.trans (k2.mono hbw.size)
                obtain ⟨⟨q0', q1', q2'⟩, _⟩ := cells3 k0
                obtain ⟨⟨p0', p1', p2'⟩, _⟩ := cells3 k1
                have hrbq : rb < wr.heap.size := hlr
                go_cut [93] (fun t wx => t = .bool false ∧ Rs wx rb (some l2) ∧ Below w.heap.size w wx)
                case first =>
                  go_region_with (first
                    | (go_at_call 17; refine (HREAD.out w5.drew hr5d).mono ?_; rintro e w6 ⟨rfl, hr6, hg6⟩; obtain ⟨q0, q1, q2⟩ := keep3 k0 hg6 (by omega); have hE6 := keepE hE5 hg6 hrb)
                    | (go_at_call 18; refine (ok_rs rb (some l2) _ hr6).mono ?_; rintro e w7 ⟨rfl, rfl⟩))
                  all_goals (go_wp2_with fail; go_meet; exact ⟨rfl, hr6, hE6⟩)
                case rest =>
                  obtain ⟨rfl, hr7, hE7⟩ := hcut
                  clear hr5 hr5d hE5 q0' q1' q2' p0' p1' p2' k0 k1 k2 HREAD hbw hrr hQ hP hB hB0
                  go_wp2_with fail
                  go_roundw
                  case rel => exact ⟨k + 1, by omega, by go_num, by rw [← HL2.out]; exact hr7, hE7⟩
                  case measure => simp [intOf]; omega
              · have HREAD : Hid (∀ W : World, Rs W rb (some (layE ⟨pk, pn, s⟩ ++ l2)) → Calls Try.prog 17 #[.pointer (some ⟨rb, 0, none⟩), .agg #[.int .i64 pk, .int .i64 pn, .string s]] W fun e w' =>
                    e = .returned (.agg #[.int .i64 1, .int .i64 0, .string s]) ∧ Rs w' rb (some l2) ∧ W.grownBy w' (some rb)) := fun W hW => by
                  have h := read_rs rb _ pk pn s W hW
                  have hk : kindN pk = 1 := by have := HK.out; omega
                  rw [HRDE.out, hk] at h
                  simpa [partV] using h
                obtain ⟨w5, hw5, k0, k1, k2⟩ : ∃ w5, w5 = ((((wc.alloc (.cells #[.int .i64 pk, .int .i64 pn, .string s] 26)).setCell ⟨q, 0, none⟩ (.int .i64 1)).setCell ⟨q, 1, none⟩ (.int .i64 0)).setCell ⟨q, 2, none⟩ (.string s)) ∧ w5.heap[q]? = some (.cells #[.int .i64 1, .int .i64 0, .string s] 26 (0, 0)) ∧ w5.heap[wr.heap.size]? = some (.cells #[.int .i64 pk, .int .i64 pn, .string s] 26 (0, 0)) ∧ Below wr.heap.size wr w5 := by
                  refine ⟨_, rfl, ?_⟩
                  exact five_1 hQ hP hB hq _ _ _ _
                have HW5 := Lib.hid hw5
                have hand1 := i64_and1
                clear hw5
                obtain ⟨⟨Q0, Q1, Q2⟩, Q3, Q4, Q5⟩ := cells3 hQ
                obtain ⟨⟨P0, P1, P2⟩, P3⟩ := cells3 hP
                obtain ⟨y1, y2, _⟩ := five_0 hQ hP hB hq (.cells #[.int .i64 pk, .int .i64 pn, .string s] 26)
                obtain ⟨⟨Y0, Y1, Y2⟩, Y3, Y4, Y5⟩ := cells3 y1
                obtain ⟨⟨Z0, Z1, Z2⟩, Z3⟩ := cells3 y2
                clear y1 y2
                go_upto_region 30 with (go_at_call 11; refine (kind_any pk pn s 1 HK.out _).mono ?_; rintro e w' ⟨rfl, rfl⟩)
                rw [← HW5.out]
                clear hand1
                clear Q0 Q1 Q2 Q3 Q4 Q5 P0 P1 P2 P3 Y0 Y1 Y2 Y3 Y4 Y5 Z0 Z1 Z2 Z3
                have hr5 := hrr.below k2
                have hr5d := hr5.below ((Below.refl _ w5).drew)
                have hE5 := hbw.trans (k2.mono hbw.size)
                obtain ⟨⟨q0', q1', q2'⟩, _⟩ := cells3 k0
                obtain ⟨⟨p0', p1', p2'⟩, _⟩ := cells3 k1
                have hrbq : rb < wr.heap.size := hlr
                go_cut [93] (fun t wx => t = .bool false ∧ Rs wx rb (some l2) ∧ Below w.heap.size w wx)
                case first =>
                  go_region_with (first
                    | (go_at_call 17; refine (HREAD.out w5.drew hr5d).mono ?_; rintro e w6 ⟨rfl, hr6, hg6⟩; obtain ⟨q0, q1, q2⟩ := keep3 k0 hg6 (by omega); have hE6 := keepE hE5 hg6 hrb)
                    | (go_at_call 18; refine (ok_rs rb (some l2) _ hr6).mono ?_; rintro e w7 ⟨rfl, rfl⟩))
                  all_goals (go_wp2_with fail; go_meet; exact ⟨rfl, hr6, hE6⟩)
                case rest =>
                  obtain ⟨rfl, hr7, hE7⟩ := hcut
                  clear hr5 hr5d hE5 q0' q1' q2' p0' p1' p2' k0 k1 k2 HREAD hbw hrr hQ hP hB hB0
                  go_wp2_with fail
                  go_roundw
                  case rel => exact ⟨k + 1, by omega, by go_num, by rw [← HL2.out]; exact hr7, hE7⟩
                  case measure => simp [intOf]; omega
              · have HREAD : Hid (∀ W : World, Rs W rb (some (layE ⟨pk, pn, s⟩ ++ l2)) → Calls Try.prog 17 #[.pointer (some ⟨rb, 0, none⟩), .agg #[.int .i64 pk, .int .i64 pn, .string s]] W fun e w' =>
                    e = .returned (.agg #[.int .i64 2, .int .i64 (pn % 2), .string ⟨#[]⟩]) ∧ Rs w' rb (some l2) ∧ W.grownBy w' (some rb)) := fun W hW => by
                  have h := read_rs rb _ pk pn s W hW
                  have hk : kindN pk = 2 := by have := HK.out; omega
                  rw [HRDE.out, hk] at h
                  simpa [partV] using h
                obtain ⟨w5, hw5, k0, k1, k2⟩ : ∃ w5, w5 = ((wc.alloc (.cells #[.int .i64 pk, .int .i64 pn, .string s] 26)).setCell ⟨q, 1, none⟩ (.int .i64 (pn % 2))) ∧ w5.heap[q]? = some (.cells #[.int .i64 2, .int .i64 (pn % 2), .string ⟨#[]⟩] 26 (0, 0)) ∧ w5.heap[wr.heap.size]? = some (.cells #[.int .i64 pk, .int .i64 pn, .string s] 26 (0, 0)) ∧ Below wr.heap.size wr w5 := by
                  refine ⟨_, rfl, ?_⟩
                  exact five_2 hQ hP hB hq _ _
                have HW5 := Lib.hid hw5
                have hand1 := i64_and1
                clear hw5
                obtain ⟨⟨Q0, Q1, Q2⟩, Q3, Q4, Q5⟩ := cells3 hQ
                obtain ⟨⟨P0, P1, P2⟩, P3⟩ := cells3 hP
                obtain ⟨y1, y2, _⟩ := five_0 hQ hP hB hq (.cells #[.int .i64 pk, .int .i64 pn, .string s] 26)
                obtain ⟨⟨Y0, Y1, Y2⟩, Y3, Y4, Y5⟩ := cells3 y1
                obtain ⟨⟨Z0, Z1, Z2⟩, Z3⟩ := cells3 y2
                clear y1 y2
                go_upto_region 30 with (go_at_call 11; refine (kind_any pk pn s 2 HK.out _).mono ?_; rintro e w' ⟨rfl, rfl⟩)
                rw [← HW5.out]
                clear hand1
                clear Q0 Q1 Q2 Q3 Q4 Q5 P0 P1 P2 P3 Y0 Y1 Y2 Y3 Y4 Y5 Z0 Z1 Z2 Z3
                have hr5 := hrr.below k2
                have hr5d := hr5.below ((Below.refl _ w5).drew)
                have hE5 := hbw.trans (k2.mono hbw.size)
                obtain ⟨⟨q0', q1', q2'⟩, _⟩ := cells3 k0
                obtain ⟨⟨p0', p1', p2'⟩, _⟩ := cells3 k1
                have hrbq : rb < wr.heap.size := hlr
                go_cut [93] (fun t wx => t = .bool false ∧ Rs wx rb (some l2) ∧ Below w.heap.size w wx)
                case first =>
                  go_region_with (first
                    | (go_at_call 17; refine (HREAD.out w5.drew hr5d).mono ?_; rintro e w6 ⟨rfl, hr6, hg6⟩; obtain ⟨q0, q1, q2⟩ := keep3 k0 hg6 (by omega); have hE6 := keepE hE5 hg6 hrb)
                    | (go_at_call 18; refine (ok_rs rb (some l2) _ hr6).mono ?_; rintro e w7 ⟨rfl, rfl⟩))
                  all_goals (go_wp2_with fail; go_meet; exact ⟨rfl, hr6, hE6⟩)
                case rest =>
                  obtain ⟨rfl, hr7, hE7⟩ := hcut
                  clear hr5 hr5d hE5 q0' q1' q2' p0' p1' p2' k0 k1 k2 HREAD hbw hrr hQ hP hB hB0
                  go_wp2_with fail
                  go_roundw
                  case rel => exact ⟨k + 1, by omega, by go_num, by rw [← HL2.out]; exact hr7, hE7⟩
                  case measure => simp [intOf]; omega
          · have hdk : laysE (ps.drop k) = [] := by
              rw [List.drop_eq_nil_of_le (by rw [HPS.out]; omega)]
              rfl
            rw [hdk] at hrr
            go_wp2_with (go_at_call 19; refine (done_rs rb (some []) _ hrr).mono ?_; rintro e w4 ⟨rfl, rfl⟩)
            go_ret
            exact ⟨rfl, hbw⟩

theorem walk (a0 : Option Addr) (len0 cap0 : Nat) (z0 : List Pt) (w : World) (w0 : IsParts w a0 len0 cap0 z0) :
    Calls Try.prog 3 #[.slice a0 len0 cap0] w fun e w' => e = .returned (.bool true) ∧ Below w.heap.size w w' := by
  obtain ⟨h1, h2, h3⟩ := w0
  by_cases hl : 20 < len0
  · exact walk_long a0 len0 cap0 w hl h2
  · rcases h3 with h3 | ⟨b, off, rfl, hb, hc⟩
    · exact walk_some 0 0 len0 cap0 z0 w h1 (by omega) a0 (by omega) (by omega) (by omega)
    · exact walk_some b off len0 cap0 z0 w h1 (by omega) _ (fun _ => rfl) (fun _ => hb) (fun j hj => hc j (by rw [h1]; exact hj))

theorem own : ownKnob Try.prog.godebug = none := by kernel_rfl
theorem laidOut : laidOutB Try.prog = true := by kernel_rfl

set_option maxRecDepth 100000 in
theorem lifted (os : Os) (started : os.Started) (H : Type) (enc : TypeId × Value → H) :
    ReturnsInHanded {} Try.checked os 3 .any (Rows.pithLaysSpec.pre6 enc Try.prog Try.f3 Rows.pithLaysRow.domain false) (Rows.pithLaysSpec.post enc Try.prog Try.f3 false true false false) := by
  refine returnsInHanded_of_change (C := Try.checked) own started (by kernel_rfl) Try.func3
    (ChangeSpec.witness6 (enc := enc) (C := Try.checked) false ⟨#[], #[.slice none 0 0], []⟩ 8 (by kernel_rfl) (by kernel_rfl) (by kernel_rfl) (by kernel_rfl)) ?_
  intro W base args ds gs before hval0 hW hcnd _
  have hval : ∀ (j : Nat) t v, Try.f3.params[j]? = some t → args[j]? = some v → Value.okWide Try.prog W .any base t v := hval0
  have hW' := hW
  obtain ⟨p, q, hA0, hV, rfl, hfz, hnd⟩ := hW
  have hA : DataW.TrodAll enc Try.prog W 0 (fun _ => true) true Try.f3.params.toList args.toList ds p := hA0
  rw [Try.params3] at hA hval
  obtain ⟨v0, vs0, d0, ds0, p0, q0, hargs, rfl, rfl, h0, r0⟩ := trodAll_cons hA
  obtain ⟨rfl, rfl, rfl⟩ := trodAll_nil r0
  obtain rfl : args = #[v0] := by cases args; simp_all
  obtain ⟨rfl, rfl⟩ := trodVars_none hV
  obtain ⟨a0, len0, cap0, rfl⟩ := okWide_slice Try.underlying22 (hval 0 22 v0 rfl rfl)
  have k0 := h0
  have lt0 : ∀ x ∈ p0, x.block < W.heap.size := by obtain ⟨m, hm⟩ := k0; exact DataW.trod_lt m _ _ _ hm
  obtain ⟨z0, w0⟩ := parts_of h0
  clear hA0 hval0
  refine (walk a0 len0 cap0 z0 W w0).mono fun e W' ⟨he, bel⟩ => ?_
  subst he
  exact ⟨_, rfl, _, _, _, [], _, [], hW', trodAll_mk1 (shut_bool Try.underlying4 _), (trodAll_cons_mk (Below.trod laidOut (by kernel_rfl) (of_decide_eq_true (by kernel_rfl)) k0 bel lt0) trodAll_mk0), rfl, bel.frame _, fun h => by cases h⟩

theorem over : Rows.pithLaysRow.holds Try.pinned (OpenSpec.ofChange Rows.pithLaysSpec) :=
  OpenClaim.holds_of_wide 3 Try.f3 rfl rfl rfl rfl rfl rfl rfl ⟨rfl, rfl, rfl, rfl, rfl⟩ rfl rfl rfl rfl rfl (by kernel_rfl) Try.func3 (by kernel_rfl)
    (of_decide_eq_true (by kernel_rfl)) (by unfold Func.isWrapper; first | (rw [if_pos (by decide +kernel)]; kernel_rfl) | (rw [if_neg (by decide +kernel)]; exact ⟨rfl, rfl⟩))
    (fun os started H enc _ => lifted os started H enc)

theorem proved : Rows.PithLaysSaid := over
end Go.Proofs.Ytefofhejaafgnaa.pithLays
