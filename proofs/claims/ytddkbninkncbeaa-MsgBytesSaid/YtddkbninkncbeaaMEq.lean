/- slices.Equal at entries and sums; Same of lists. No conditions beyond those in each statement. -/
import Derived.Test.YtddkbninkncbeaaMList
namespace Go.Proofs.Ytddkbninkncbeaa
open Go.RowKit
set_option linter.unusedVariables false
set_option linter.unusedSimpArgs false
set_option maxRecDepth 100000

theorem eqB_false {α : Type} {x y : α} (h : eqB x y = false) : ¬ x = y := fun e => by rw [eqB_true.2 e] at h; cases h
theorem ne_en (a b : Ent) (h : ¬ a = b) (W : World) : (binOp .neq 39 (entV a) (entV b)).run Try.prog W = .ok (.bool true) W := by
  obtain ⟨k, p, t⟩ := a
  obtain ⟨k', p', t'⟩ := b
  unfold entV
  by_cases h1 : k = k'
  · by_cases h2 : p = p'
    · have h3 : ¬ t = t' := fun e => h (by rw [h1, h2, e])
      have h3' := str_ne h3
      subst h1 h2
      simp [go_sem, h3, h3']
    · have h2' : (p == p') = false := by simpa using h2
      subst h1
      simp [go_sem, h2, h2']
  · have h1' : (k == k') = false := by simpa using h1
    simp [go_sem, h1, h1']
theorem eq_en (a : Ent) (W : World) : (binOp .neq 39 (entV a) (entV a)).run Try.prog W = .ok (.bool false) W := by
  unfold entV
  simp [go_sem]
set_option maxHeartbeats 4000000 in
theorem equalen_any (a1 a2 : Option Addr) (c1 c2 : Nat) (L M : List Ent) (w : World) (h1 : EnsR w (.slice a1 L.length c1) L) (h2 : EnsR w (.slice a2 M.length c2) M) :
    Calls Try.prog 30 #[.slice a1 L.length c1, .slice a2 M.length c2] w fun e w' => e = .returned (.bool (eqB L M)) ∧ Below w.heap.size w w' := by
  have hL : L.length ≤ maxLen := by obtain ⟨_, _, _, h, _⟩ := h1; exact h
  have hM : M.length ≤ maxLen := by obtain ⟨_, _, _, h, _⟩ := h2; exact h
  unfold maxLen at hL hM
  have HE := Lib.hid (show eqB L M = eqB L M from rfl)
  have H1 := Lib.hid h1
  have H2 := Lib.hid h2
  clear h1 h2
  by_cases hlen : L.length = M.length
  · have hle : (L.length == M.length) = true := by simpa using hlen
    obtain ⟨n, hn⟩ : ∃ n, n = L.length := ⟨_, rfl⟩
    have hn2 : n = M.length := by omega
    have HLN := Lib.hid hn
    have HMN := Lib.hid hn2
    rw [← hn] at H1 hL ⊢
    rw [← hn2] at H2 ⊢
    clear hn hn2 hle hlen hM
    have HO : ∀ (j : Nat) (W : World), j < n → Below w.heap.size w W → (∃ g off, a1 = some ⟨g, off, none⟩ ∧ EnC W g (off + j * 3) (L.getD j Ent.zero)) ∧ ∃ g off, a2 = some ⟨g, off, none⟩ ∧ EnC W g (off + j * 3) (M.getD j Ent.zero) := fun j W hj hW => by
      have q1 := H1.out
      rw [HLN.out] at q1
      have q2 := H2.out
      rw [HMN.out] at q2
      exact ⟨(q1.at hW (by have := HLN.out; omega)).2, (q2.at hW (by have := HMN.out; omega)).2⟩
    have HO0 := Lib.hid HO
    clear HO
    go_enter Try.func30, Try.ntmps30
    go_wp2_with fail
    go_loopw [13] (fun i wr => ∃ j : Nat, j ≤ n ∧ i = .int .i64 j ∧ Hid (L.take j = M.take j) ∧ Below w.heap.size w wr) (fun i _ => n - (intOf i).toNat)
    case atStart => exact ⟨0, Nat.zero_le _, rfl, Lib.hid (by simp), Below.refl _ _⟩
    case round =>
      obtain ⟨j, hj, rfl, HT, hb⟩ := hrel
      by_cases hlt : j < n
      · obtain ⟨⟨g, off, rfl, x0, x1, x2⟩, g', off', rfl, y0, y1, y2⟩ := HO0.out j wr hlt hb
        have HTK := Lib.hid (fun h => take_eq (L := L) (M := M) (d := Ent.zero) (k := j) (by have := HLN.out; omega) (by have := HMN.out; omega) HT.out h)
        have HNE : Hid (¬ L.getD j Ent.zero = M.getD j Ent.zero → eqB L M = false) := Lib.hid (fun h => eqB_ne (fun e => h (by rw [e])))
        have t2 : IntKind.i64.wrap ((j : Int) + 1) = (j : Int) + 1 := IntWalk.i64_in _ (by omega)
        have hj0 : (0 : Int) ≤ (j : Int) := by omega
        have hji : (j : Int) < (n : Int) := by omega
        generalize L.getD j Ent.zero = A at *
        generalize M.getD j Ent.zero = B at *
        by_cases hab : A = B
        · subst hab
          have q := fun W => eq_en A W
          unfold entV at q
          have HT2 := Lib.hid (HTK.out rfl)
          clear HTK HNE
          go_upto_region 6 with fail
          go_quiet (fail)
          go_wp2_with fail
          go_roundw
          case rel => exact ⟨j + 1, by omega, by go_num, HT2, by first | exact hb | exact (hb.trans ((drewN_below _ _).mono hb.size))⟩
          case measure => simp [intOf]; omega
        · have q := fun W => ne_en A B hab W
          unfold entV at q
          have HF := Lib.hid (HNE.out hab)
          clear HTK HNE hab
          go_upto_region 6 with fail
          go_quiet (fail)
          go_wp2_with fail
          go_ret
          exact ⟨by rw [HF.out]; rfl, by first | exact hb | exact (hb.trans ((drewN_below _ _).mono hb.size))⟩
      · obtain rfl : j = n := by omega
        have HF : Hid (eqB L M = true) := Lib.hid (eqB_true.2 (by
          have h := HT.out
          rwa [List.take_of_length_le (by have := HLN.out; omega), List.take_of_length_le (by have := HMN.out; omega)] at h))
        have hlt2 : decide ((j : Int) < (j : Int)) = false := by simp
        go_wp2_with fail
        go_ret
        exact ⟨by rw [HF.out]; rfl, hb⟩
  · have HF := Lib.hid (show eqB L M = false from eqB_ne (fun e => hlen (by rw [e])))
    have hle : (((L.length : Nat) : Int) == ((M.length : Nat) : Int)) = false := by simp; omega
    go_enter Try.func30, Try.ntmps30
    go_wp2_with fail
    go_ret
    exact ⟨by rw [HF.out]; rfl, Below.refl _ _⟩
set_option maxHeartbeats 4000000 in
theorem equalsm_any (a1 a2 : Option Addr) (c1 c2 : Nat) (L M : List Int) (w : World) (h1 : SmsR w (.slice a1 L.length c1) L) (h2 : SmsR w (.slice a2 M.length c2) M) :
    Calls Try.prog 36 #[.slice a1 L.length c1, .slice a2 M.length c2] w fun e w' => e = .returned (.bool (eqB L M)) ∧ Below w.heap.size w w' := by
  have hL : L.length ≤ maxLen := by obtain ⟨_, _, _, h, _⟩ := h1; exact h
  have hM : M.length ≤ maxLen := by obtain ⟨_, _, _, h, _⟩ := h2; exact h
  unfold maxLen at hL hM
  have HE := Lib.hid (show eqB L M = eqB L M from rfl)
  have H1 := Lib.hid h1
  have H2 := Lib.hid h2
  clear h1 h2
  by_cases hlen : L.length = M.length
  · have hle : (L.length == M.length) = true := by simpa using hlen
    obtain ⟨n, hn⟩ : ∃ n, n = L.length := ⟨_, rfl⟩
    have hn2 : n = M.length := by omega
    have HLN := Lib.hid hn
    have HMN := Lib.hid hn2
    rw [← hn] at H1 hL ⊢
    rw [← hn2] at H2 ⊢
    clear hn hn2 hle hlen hM
    have HO : ∀ (j : Nat) (W : World), j < n → Below w.heap.size w W → (∃ g off, a1 = some ⟨g, off, none⟩ ∧ W.cell? ⟨g, off + j, none⟩ = some (.int .u32 (L.getD j 0))) ∧ ∃ g off, a2 = some ⟨g, off, none⟩ ∧ W.cell? ⟨g, off + j, none⟩ = some (.int .u32 (M.getD j 0)) := fun j W hj hW => by
      have q1 := H1.out
      rw [HLN.out] at q1
      have q2 := H2.out
      rw [HMN.out] at q2
      exact ⟨(q1.at hW (by have := HLN.out; omega)).2, (q2.at hW (by have := HMN.out; omega)).2⟩
    have HO0 := Lib.hid HO
    clear HO
    go_enter Try.func36, Try.ntmps36
    go_wp2_with fail
    go_loopw [13] (fun i wr => ∃ j : Nat, j ≤ n ∧ i = .int .i64 j ∧ Hid (L.take j = M.take j) ∧ Below w.heap.size w wr) (fun i _ => n - (intOf i).toNat)
    case atStart => exact ⟨0, Nat.zero_le _, rfl, Lib.hid (by simp), Below.refl _ _⟩
    case round =>
      obtain ⟨j, hj, rfl, HT, hb⟩ := hrel
      by_cases hlt : j < n
      · obtain ⟨⟨g, off, rfl, x0⟩, g', off', rfl, y0⟩ := HO0.out j wr hlt hb
        have HTK := Lib.hid (fun h => take_eq (L := L) (M := M) (d := (0 : Int)) (k := j) (by have := HLN.out; omega) (by have := HMN.out; omega) HT.out h)
        have HNE : Hid (¬ L.getD j (0 : Int) = M.getD j (0 : Int) → eqB L M = false) := Lib.hid (fun h => eqB_ne (fun e => h (by rw [e])))
        have t2 : IntKind.i64.wrap ((j : Int) + 1) = (j : Int) + 1 := IntWalk.i64_in _ (by omega)
        have hj0 : (0 : Int) ≤ (j : Int) := by omega
        have hji : (j : Int) < (n : Int) := by omega
        generalize L.getD j (0 : Int) = A at *
        generalize M.getD j (0 : Int) = B at *
        by_cases hab : A = B
        · subst hab
          have HT2 := Lib.hid (HTK.out rfl)
          clear HTK HNE
          go_upto_region 6 with fail
          go_quiet (fail)
          go_wp2_with fail
          go_roundw
          case rel => exact ⟨j + 1, by omega, by go_num, HT2, by first | exact hb | exact (hb.trans ((drewN_below _ _).mono hb.size))⟩
          case measure => simp [intOf]; omega
        · have g : (A == B) = false := by simpa using hab
          have HF := Lib.hid (HNE.out hab)
          clear HTK HNE hab
          go_upto_region 6 with fail
          go_quiet (fail)
          go_wp2_with fail
          go_ret
          exact ⟨by rw [HF.out]; rfl, by first | exact hb | exact (hb.trans ((drewN_below _ _).mono hb.size))⟩
      · obtain rfl : j = n := by omega
        have HF : Hid (eqB L M = true) := Lib.hid (eqB_true.2 (by
          have h := HT.out
          rwa [List.take_of_length_le (by have := HLN.out; omega), List.take_of_length_le (by have := HMN.out; omega)] at h))
        have hlt2 : decide ((j : Int) < (j : Int)) = false := by simp
        go_wp2_with fail
        go_ret
        exact ⟨by rw [HF.out]; rfl, hb⟩
  · have HF := Lib.hid (show eqB L M = false from eqB_ne (fun e => hlen (by rw [e])))
    have hle : (((L.length : Nat) : Int) == ((M.length : Nat) : Int)) = false := by simp; omega
    go_enter Try.func36, Try.ntmps36
    go_wp2_with fail
    go_ret
    exact ⟨by rw [HF.out]; rfl, Below.refl _ _⟩
set_option maxHeartbeats 4000000 in
theorem listsame_any (v1 v2 : Value) (i t n : Int) (S : List Int) (i' t' n' : Int) (S' : List Int) (w : World) (h1 : SmsR w v1 S) (h2 : SmsR w v2 S') :
    Calls Try.prog 31 #[lsV v1 i t n, lsV v2 i' t' n'] w fun e w' => e = .returned (.bool (eqB (i, t, n, S) (i', t', n', S'))) ∧ Below w.heap.size w w' := by
  obtain ⟨a1, cap1, rfl, _⟩ := h1.form
  obtain ⟨a2, cap2, rfl, _⟩ := h2.form
  have H1 := Lib.hid h1
  have H2 := Lib.hid h2
  clear h1 h2
  have bA := (Below.refl w.heap.size w).alloc (Nat.le_refl _) (.cells (lsA (.slice a1 S.length cap1) i t n) 27)
  have bB := bA.alloc bA.size (.cells (lsA (.slice a2 S'.length cap2) i' t' n') 27)
  have N1 := LsB.new w (.slice a1 S.length cap1) i t n
  have N2 := LsB.new (w.alloc (.cells (lsA (.slice a1 S.length cap1) i t n) 27)) (.slice a2 S'.length cap2) i' t' n'
  have N1' := N1.below ((Below.refl _ (w.alloc (.cells (lsA (.slice a1 S.length cap1) i t n) 27))).alloc (Nat.le_refl _) (.cells (lsA (.slice a2 S'.length cap2) i' t' n') 27))
  unfold lsV
  go_enter Try.func31, Try.ntmps31
  go_upto_region 1 with fail
  obtain ⟨w2, hw2⟩ : ∃ w2, w2 = ((w.alloc (.cells (lsA (.slice a1 S.length cap1) i t n) 27)).alloc (.cells (lsA (.slice a2 S'.length cap2) i' t' n') 27)) := ⟨_, rfl⟩
  have hw2' := hw2
  unfold lsA at hw2'
  rw [← hw2] at N1' N2 bB
  rw [← hw2']
  rw [show (w.alloc (.cells (lsA (.slice a1 S.length cap1) i t n) 27)).heap.size = w.heap.size + 1 by simp] at N2
  obtain ⟨⟨c0, c1, c2, c3⟩, _⟩ := LsB.cells N1'
  obtain ⟨⟨d0, d1, d2, d3⟩, _⟩ := LsB.cells N2
  have HEQ := Lib.hid (equalsm_any a1 a2 cap1 cap2 S S' w2 (H1.out.below bB) (H2.out.below bB))
  clear hw2 hw2' bA N1 N1' N2
  by_cases e0 : i = i'
  case neg =>
    have HF := Lib.hid (eqB_ne (fun e : (i, t, n, S) = (i', t', n', S') => e0 (congrArg (fun p : Int × Int × Int × List Int => p.1) e)))
    have g : (i == i') = false := by simpa using e0
    clear e0
    go_wp2_with fail
    go_ret
    exact ⟨by rw [HF.out]; rfl, bB⟩
  by_cases e1 : t = t'
  case neg =>
    have HF := Lib.hid (eqB_ne (fun e : (i, t, n, S) = (i', t', n', S') => e1 (congrArg (fun p : Int × Int × Int × List Int => p.2.1) e)))
    have g : (t == t') = false := by simpa using e1
    subst e0
    clear e1
    go_wp2_with fail
    go_ret
    exact ⟨by rw [HF.out]; rfl, bB⟩
  by_cases e2 : n = n'
  case neg =>
    have HF := Lib.hid (eqB_ne (fun e : (i, t, n, S) = (i', t', n', S') => e2 (congrArg (fun p : Int × Int × Int × List Int => p.2.2.1) e)))
    have g : (n == n') = false := by simpa using e2
    subst e0
    subst e1
    clear e2
    go_wp2_with fail
    go_ret
    exact ⟨by rw [HF.out]; rfl, bB⟩
  subst e0 e1 e2
  have HF : Hid (eqB (i, t, n, S) (i, t, n, S') = eqB S S') := Lib.hid (by
    rw [Bool.eq_iff_iff, eqB_true, eqB_true]
    exact ⟨fun e => congrArg (fun p : Int × Int × Int × List Int => p.2.2.2) e, fun e => by rw [e]⟩)
  go_wp2_with fail
  refine HEQ.out.mono ?_
  rintro e w3 ⟨rfl, b3⟩
  go_wp2_with fail
  go_ret
  exact ⟨by rw [HF.out]; rfl, bB.trans (b3.mono bB.size)⟩
end Go.Proofs.Ytddkbninkncbeaa
