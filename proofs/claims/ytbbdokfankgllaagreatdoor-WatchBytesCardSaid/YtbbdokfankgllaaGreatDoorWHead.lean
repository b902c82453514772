/- Add with one answer; the law's head. No conditions beyond those in each statement. -/
import Derived.Test.YtbbdokfankgllaaGreatDoorWFired
namespace Go.Proofs.YtbbdokfankgllaaGreatDoor
open Go.RowKit Go.Maps Go.Shelf
set_option linter.unusedVariables false
set_option linter.unusedSimpArgs false
set_option maxRecDepth 100000

theorem add_frm (base bb : Nat) (vw ve vm : Value) (Ws : List Wa) (Es : List Ev) (k c : Nat) (N : Int → Option Int) (x : Wa) (w : World) (h : BkW w base bb vw ve vm Ws Es k c N) (hm : Mono Ws x) (hl : Ws.length ≤ 1000) :
    Calls Tryz.prog 16 #[.pointer (some ⟨bb, 0, none⟩), waV x] w fun e w' => e = .returned (.int .i64 (addE Ws x)) ∧ ∃ v', BkW w' base bb v' ve vm (addL Ws x) Es k c N ∧ Below base w w' ∧ (∀ b, b < w.heap.size → vw.ownBlock ≠ some b → b ≠ bb → w'.heap[b]? = w.heap[b]?) ∧ FrM w w' bb vw ve vm v' ve vm := by
  have hlo := h.lo.2
  cases hb : badS x with
  | true =>
    have e1 : addE Ws x = 1 := by unfold addE; rw [if_pos hb]
    have e2 : addL Ws x = Ws := by unfold addL; rw [if_pos hb]
    rw [e1, e2]
    refine (add_bad base bb vw ve vm Ws Es k c N x w h hb).mono ?_
    rintro e w' ⟨rfl, b⟩
    exact ⟨rfl, vw, h.below b, b.mono hlo, fun q hq _ _ => b.block q hq, FrM.low b⟩
  | false =>
    by_cases hp : checkE x.path.data.toList = 0
    · refine (add_main base bb vw ve vm Ws Es k c N x w h hb hp hm hl).mono ?_
      have nb : ¬ badS x = true := by rw [hb]; decide
      rintro e w' (⟨hc, b⟩ | ⟨hi, hlt, rfl, v', hk, b, hkp, hfr⟩)
      · refine ⟨?_, vw, ?_, b.mono hlo, fun q hq _ _ => b.block q hq, FrM.low b⟩
        · unfold addE
          rw [if_neg nb, if_pos hp]
          rcases hc with ⟨hi, rfl⟩ | ⟨hi, h40, rfl⟩
          · rw [if_pos hi]
          · rw [if_neg (by rw [hi]; decide), if_pos h40]
        · have : addL Ws x = Ws := by
            unfold addL
            rw [if_neg nb, if_pos hp]
            rcases hc with ⟨hi, rfl⟩ | ⟨hi, h40, rfl⟩
            · rw [if_pos hi]
            · rw [if_neg (by rw [hi]; decide), if_pos h40]
          rw [this]
          exact h.below b
      · refine ⟨?_, v', ?_, b, hkp, hfr⟩
        · unfold addE
          rw [if_neg nb, if_pos hp, if_neg (by rw [hi]; decide), if_neg (by omega)]
        · have : addL Ws x = Ws.take (posF Ws x) ++ x :: Ws.drop (posF Ws x) := by
            unfold addL
            rw [if_neg nb, if_pos hp, if_neg (by rw [hi]; decide), if_neg (by omega)]
          rw [this]
          exact hk
    · have nb : ¬ badS x = true := by rw [hb]; decide
      have e1 : addE Ws x = checkE x.path.data.toList := by unfold addE; rw [if_neg nb, if_neg hp]
      have e2 : addL Ws x = Ws := by unfold addL; rw [if_neg nb, if_neg hp]
      rw [e1, e2]
      refine (add_path base bb vw ve vm Ws Es k c N x w h hb hp).mono ?_
      rintro e w' ⟨rfl, b⟩
      exact ⟨rfl, vw, h.below b, b.mono hlo, fun q hq _ _ => b.block q hq, FrM.low b⟩
theorem add_any (base bb : Nat) (vw ve vm : Value) (Ws : List Wa) (Es : List Ev) (k c : Nat) (N : Int → Option Int) (x : Wa) (w : World) (h : BkW w base bb vw ve vm Ws Es k c N) (hm : Mono Ws x) (hl : Ws.length ≤ 1000) :
    Calls Tryz.prog 16 #[.pointer (some ⟨bb, 0, none⟩), waV x] w fun e w' => e = .returned (.int .i64 (addE Ws x)) ∧ ∃ v', BkW w' base bb v' ve vm (addL Ws x) Es k c N ∧ Below base w w' ∧ ∀ b, b < w.heap.size → vw.ownBlock ≠ some b → b ≠ bb → w'.heap[b]? = w.heap[b]? :=
  (add_frm base bb vw ve vm Ws Es k c N x w h hm hl).mono fun e w' ⟨h1, a, h2, h3, h4, _⟩ => ⟨h1, a, h2, h3, h4⟩
theorem mono_nil (x : Wa) : Mono [] x := fun i j a b _ h => by simp at h
def wa0 : Wa := ⟨1, ⟨#[47, 97]⟩, false, true⟩
section
variable {Ws : List Wa} {x : Wa}
theorem add_new (hb : badS x = false) (hp : checkE x.path.data.toList = 0) (hi : isB Ws x (posF Ws x) = false) (hl : Ws.length < 40) : addE Ws x = 0 ∧ addL Ws x = Ws.take (posF Ws x) ++ x :: Ws.drop (posF Ws x) := by
  have nb : ¬ badS x = true := by rw [hb]; decide
  have ni : ¬ isB Ws x (posF Ws x) = true := by rw [hi]; decide
  have nl : ¬ 40 ≤ Ws.length := by omega
  simp only [addE, addL, if_neg nb, if_pos hp, if_neg ni, if_neg nl, and_self]
theorem add_old (hb : badS x = false) (hp : checkE x.path.data.toList = 0) (hi : isB Ws x (posF Ws x) = true) : addE Ws x = 0 ∧ addL Ws x = Ws := by
  have nb : ¬ badS x = true := by rw [hb]; decide
  simp only [addE, addL, if_neg nb, if_pos hp, if_pos hi, and_self]
theorem add_full (hb : badS x = false) (hp : checkE x.path.data.toList = 0) (hi : isB Ws x (posF Ws x) = false) (hl : 40 ≤ Ws.length) : addE Ws x = 16 ∧ addL Ws x = Ws := by
  have nb : ¬ badS x = true := by rw [hb]; decide
  have ni : ¬ isB Ws x (posF Ws x) = true := by rw [hi]; decide
  simp only [addE, addL, if_neg nb, if_pos hp, if_neg ni, if_pos hl, and_self]
end
theorem head_add : addE [] wa0 = 0 ∧ addL [] wa0 = [wa0] := add_new (Ws := []) (x := wa0) (by decide) (by decide) rfl (by decide)
theorem head_trig : trigB ⟨#[47, 97]⟩ (bs [47]) 3 wa0 = true ∧ trigK ⟨#[47, 97]⟩ (bs [47]) 3 wa0 = 3 := by
  simp [trigB, trigK, wa0]
def ev0 : Ev := ⟨1, 1, ⟨#[47, 97]⟩, 3, 5⟩
theorem head_f1 : fireW ⟨#[47, 97]⟩ (bs [47]) 3 [wa0] = [] ∧ (fireS ⟨#[47, 97]⟩ (bs [47]) 3 5 [wa0] ([], fun _ => none)).1 = [ev0] := by
  constructor
  · simp [fireW, head_trig.1, wa0, show (wa0.once) = true from rfl]
    have := head_trig.1
    unfold wa0 at this
    simp [this]
  · simp only [fireS, List.foldl_cons, List.foldl_nil, fireT, head_trig.1, head_trig.2, if_true, List.nil_append]
    rfl
theorem up_a (W : World) : Calls Tryz.prog 48 #[.string ⟨#[47, 97]⟩] W fun e w' => e = .returned (.tuple #[.string (bs [47]), .string (bs [97])]) ∧ ∃ n, w' = W.drewN n :=
  up_any [] [97] W (by decide) (by decide) (by decide) (by decide)
set_option maxHeartbeats 4000000 in
theorem head_any (w : World) : Calls Tryz.prog 4 #[] w fun e w' => e = .returned (.bool true) ∧ Below w.heap.size w w' := by
  have HN := Lib.hid (bnew_any w)
  go_enter Tryz.func4, Tryz.ntmps4
  go_wp2_with fail
  refine HN.out.mono ?_
  rintro e w1 ⟨rfl, hk1, b1⟩
  have ha := add_any w.heap.size w.heap.size _ _ _ [] [] 0 0 _ wa0 w1 hk1 (mono_nil _) (by decide)
  rw [head_add.1, head_add.2] at ha
  have HA := Lib.hid ha
  have HB1 := Lib.hid b1
  clear HN ha hk1 b1
  go_wp2_with fail
  refine HA.out.mono ?_
  rintro e w2 ⟨rfl, v2, hk2, b2, _⟩
  have hf := fire_any w.heap.size w.heap.size _ _ _ [wa0] [] 0 0 _ ⟨#[47, 97]⟩ (bs [47]) (bs [97]) 3 5 w2 hk2 up_a (fun x hx => by
    simp at hx
    subst hx
    unfold InR wa0
    decide) (by decide) (by decide) (by decide)
  rw [head_f1.1, head_f1.2] at hf
  have HF := Lib.hid hf
  have HB2 : Hid (Below w.heap.size w w2) := Lib.hid (HB1.out.trans b2)
  clear HA hf hk2 b2 HB1
  go_wp2_with fail
  refine HF.out.mono ?_
  rintro e w3 ⟨rfl, v3, e3, m3, k3, c3, hk3, hle3, b3⟩
  have hf := fire_any w.heap.size w.heap.size _ _ _ [] [ev0] k3 c3 _ ⟨#[47, 97]⟩ (bs [47]) (bs [97]) 3 6 w3 hk3 up_a (fun x hx => by simp at hx) (by decide) (by decide) (by simp at hle3; omega)
  have HF2 := Lib.hid hf
  have HB3 : Hid (Below w.heap.size w w3) := Lib.hid (HB2.out.trans b3)
  clear HF hf hk3 b3 HB2
  go_wp2_with fail
  refine HF2.out.mono ?_
  rintro e w4 ⟨rfl, v4, e4, m4, k4, c4, hk4, hle4, b4⟩
  have he := events_any w.heap.size w.heap.size _ _ _ _ _ k4 c4 _ 1 w4 hk4 (by decide)
  have HE := Lib.hid he
  have HB4 : Hid (Below w.heap.size w w4) := Lib.hid (HB3.out.trans b4)
  clear HF2 he hk4 b4 HB3
  go_wp2_with fail
  refine HE.out.mono ?_
  rintro e w5 ⟨v5, rfl, hr5, b5⟩
  have hr6 : ERow w5 w4.heap.size v5 [ev0] := hr5
  clear hr5
  have HB5 : Hid (Below w.heap.size w w5) := Lib.hid (HB4.out.trans (b5.mono HB4.out.size))
  obtain ⟨a, cc, rfl, hga, _⟩ := evV_form hr6
  obtain ⟨g, rfl, hgw, _⟩ := hga (by decide)
  have y0 : w5.cell? ⟨g, 0, none⟩ = some (.int .i64 1) := by simpa [ev0] using evC0 (j := 0) (x := ev0) hr6 rfl rfl
  have y1 : w5.cell? ⟨g, 1, none⟩ = some (.int .i64 1) := by simpa [ev0] using evC1 (j := 0) (x := ev0) hr6 rfl rfl
  have y2 : w5.cell? ⟨g, 2, none⟩ = some (.string ⟨#[47, 97]⟩) := by simpa [ev0] using evC2 (j := 0) (x := ev0) hr6 rfl rfl
  have y3 : w5.cell? ⟨g, 3, none⟩ = some (.int .i64 3) := by simpa [ev0] using evC3 (j := 0) (x := ev0) hr6 rfl rfl
  have y4 : w5.cell? ⟨g, 4, none⟩ = some (.int .i64 5) := by simpa [ev0] using evC4 (j := 0) (x := ev0) hr6 rfl rfl
  have hln : ((([ev0] : List Ev).length : Nat) : Int) = 1 := rfl
  clear HE hr6 hga b5 HB4
  go_wp2_with fail
  go_ret
  exact ⟨rfl, HB5.out⟩
end Go.Proofs.YtbbdokfankgllaaGreatDoor
