/- Same of commands; slices.Equal and slices.Clone at operations; Made. No conditions beyond those in each statement. -/
import Derived.Test.YtkdbkbfloiponaaOpRead
namespace Go.Proofs.Ytkdbkbfloiponaa
open Go.RowKit
set_option linter.unusedVariables false
set_option linter.unusedSimpArgs false
set_option maxRecDepth 100000

theorem str_eq (x y : ByteArray) (B : Bool) (hB : B = true ↔ x = y) : (x.toList == y.toList) = B := by
  rw [Bool.eq_iff_iff, hB, beq_iff_eq, ByteArray.toList_eq, ByteArray.toList_eq]
  exact ⟨fun e => ByteArray.ext (Array.toList_inj.1 e), fun e => by rw [e]⟩
theorem str_ne {x y : ByteArray} (h : ¬ x = y) : (x.toList == y.toList) = false := str_eq x y false ⟨fun e => absurd e (by simp), fun e => absurd e h⟩
theorem drewN_below (w : World) (n : Nat) : Below w.heap.size w (w.drewN n) := ⟨rfl, rfl, rfl, Nat.le_refl _, fun _ _ => rfl⟩
noncomputable def eqB {α : Type} (x y : α) : Bool := @decide (x = y) (Classical.propDecidable _)
theorem eqB_true {α : Type} {x y : α} : eqB x y = true ↔ x = y := by unfold eqB; exact @decide_eq_true_iff _ (Classical.propDecidable _)
theorem eqB_self {α : Type} (x : α) : eqB x x = true := eqB_true.2 rfl
theorem eqB_ne {α : Type} {x y : α} (h : ¬ x = y) : eqB x y = false := by cases e : eqB x y; rfl; exact absurd (eqB_true.1 e) h
theorem ne_op (a b : Opr) (h : ¬ a = b) (W : World) : (binOp .neq 50 (opV a) (opV b)).run Try.prog W = .ok (.bool true) W := by
  obtain ⟨k, p, t, v, s, o⟩ := a
  obtain ⟨k', p', t', v', s', o'⟩ := b
  unfold opV
  by_cases h1 : k = k'
  · by_cases h2 : p = p'
    · by_cases h3 : t = t'
      · by_cases h4 : v = v'
        · by_cases h5 : s = s'
          · have h6 : ¬ o = o' := fun e => h (by rw [h1, h2, h3, h4, h5, e])
            subst h1 h2 h3 h4 h5
            have h6' : (o == o') = false := by simpa using h6
            simp [go_sem, h6, h6']
          · subst h1 h2 h3 h4
            have h5' : (s == s') = false := by simpa using h5
            simp [go_sem, h5, h5']
        · subst h1 h2 h3
          have h4' : (v == v') = false := by simpa using h4
          simp [go_sem, h4, h4']
      · have h3' := str_ne h3
        subst h1 h2
        simp [go_sem, h3, h3']
    · have h2' := str_ne h2
      subst h1
      simp [go_sem, h2, h2']
  · have h1' : (k == k') = false := by simpa using h1
    simp [go_sem, h1, h1']
theorem eq_op (a : Opr) (W : World) : (binOp .neq 50 (opV a) (opV a)).run Try.prog W = .ok (.bool false) W := by
  unfold opV
  simp [go_sem]
theorem take_eq {α : Type} {L M : List α} {d : α} {k : Nat} (h1 : k < L.length) (h2 : k < M.length) (h : L.take k = M.take k) (he : L.getD k d = M.getD k d) : L.take (k + 1) = M.take (k + 1) := by
  rw [take_snoc_getD L d k h1, take_snoc_getD M d k h2, h, he]
set_option maxHeartbeats 4000000 in
theorem equal_any (a1 a2 : Option Addr) (c1 c2 : Nat) (L M : List Opr) (w : World) (h1 : OpsR w (.slice a1 L.length c1) L) (h2 : OpsR w (.slice a2 M.length c2) M) :
    Calls Try.prog 28 #[.slice a1 L.length c1, .slice a2 M.length c2] w fun e w' => e = .returned (.bool (eqB L M)) ∧ Below w.heap.size w w' := by
  have hL : L.length ≤ maxLen := by obtain ⟨_, _, _, h, _⟩ := h1; exact h
  have hM : M.length ≤ maxLen := by obtain ⟨_, _, _, h, _⟩ := h2; exact h
  unfold maxLen at hL hM
  have HE := Lib.hid (show eqB L M = eqB L M from rfl)
  have H1 := Lib.hid h1
  have H2 := Lib.hid h2
  clear h1 h2
  by_cases hlen : L.length = M.length
  · have hle : (L.length == M.length) = true := by simpa using hlen
    obtain ⟨n, hn⟩ : ∃ n, n = L.length := ⟨_, rfl⟩
    have hn2 : n = M.length := by omega
    have HLN := Lib.hid hn
    have HMN := Lib.hid hn2
    rw [← hn] at H1 hL ⊢
    rw [← hn2] at H2 ⊢
    clear hn hn2 hle hlen hM
    have HO : ∀ (j : Nat) (W : World), j < n → Below w.heap.size w W → (∃ g off, a1 = some ⟨g, off, none⟩ ∧ OpC W g (off + j * 6) (L.getD j Opr.zero)) ∧ ∃ g off, a2 = some ⟨g, off, none⟩ ∧ OpC W g (off + j * 6) (M.getD j Opr.zero) := fun j W hj hW => by
      have q1 := H1.out
      rw [HLN.out] at q1
      have q2 := H2.out
      rw [HMN.out] at q2
      exact ⟨(q1.at hW (by have := HLN.out; omega)).2, (q2.at hW (by have := HMN.out; omega)).2⟩
    have HO0 := Lib.hid HO
    clear HO
    go_enter Try.func28, Try.ntmps28
    go_wp2_with fail
    go_loopw [13] (fun i wr => ∃ j : Nat, j ≤ n ∧ i = .int .i64 j ∧ Hid (L.take j = M.take j) ∧ Below w.heap.size w wr) (fun i _ => n - (intOf i).toNat)
    case atStart => exact ⟨0, Nat.zero_le _, rfl, Lib.hid (by simp), Below.refl _ _⟩
    case round =>
      obtain ⟨j, hj, rfl, HT, hb⟩ := hrel
      by_cases hlt : j < n
      · obtain ⟨⟨g, off, rfl, x0, x1, x2, x3, x4, x5⟩, g', off', rfl, y0, y1, y2, y3, y4, y5⟩ := HO0.out j wr hlt hb
        have HTK := Lib.hid (fun h => take_eq (L := L) (M := M) (d := Opr.zero) (k := j) (by have := HLN.out; omega) (by have := HMN.out; omega) HT.out h)
        have HNE : Hid (¬ L.getD j Opr.zero = M.getD j Opr.zero → eqB L M = false) := Lib.hid (fun h => eqB_ne (fun e => h (by rw [e])))
        have t2 : IntKind.i64.wrap ((j : Int) + 1) = (j : Int) + 1 := IntWalk.i64_in _ (by omega)
        have hj0 : (0 : Int) ≤ (j : Int) := by omega
        have hji : (j : Int) < (n : Int) := by omega
        generalize L.getD j Opr.zero = A at *
        generalize M.getD j Opr.zero = B at *
        by_cases hab : A = B
        · subst hab
          have q := fun W => eq_op A W
          unfold opV at q
          have HT2 := Lib.hid (HTK.out rfl)
          clear HTK HNE
          go_upto_region 6 with fail
          go_quiet (fail)
          go_wp2_with fail
          go_roundw
          case rel => exact ⟨j + 1, by omega, by go_num, HT2, by first | exact hb | exact (hb.trans ((drewN_below _ _).mono hb.size))⟩
          case measure => simp [intOf]; omega
        · have q := fun W => ne_op A B hab W
          unfold opV at q
          have HF := Lib.hid (HNE.out hab)
          clear HTK HNE hab
          go_upto_region 6 with fail
          go_quiet (fail)
          go_wp2_with fail
          go_ret
          exact ⟨by rw [HF.out]; rfl, by first | exact hb | exact (hb.trans ((drewN_below _ _).mono hb.size))⟩
      · obtain rfl : j = n := by omega
        have HF : Hid (eqB L M = true) := Lib.hid (eqB_true.2 (by
          have h := HT.out
          rwa [List.take_of_length_le (by have := HLN.out; omega), List.take_of_length_le (by have := HMN.out; omega)] at h))
        have hlt2 : decide ((j : Int) < (j : Int)) = false := by simp
        go_wp2_with fail
        go_ret
        exact ⟨by rw [HF.out]; rfl, hb⟩
  · have HF := Lib.hid (show eqB L M = false from eqB_ne (fun e => hlen (by rw [e])))
    have hle : (((L.length : Nat) : Int) == ((M.length : Nat) : Int)) = false := by simp; omega
    go_enter Try.func28, Try.ntmps28
    go_wp2_with fail
    go_ret
    exact ⟨by rw [HF.out]; rfl, Below.refl _ _⟩
end Go.Proofs.Ytkdbkbfloiponaa
