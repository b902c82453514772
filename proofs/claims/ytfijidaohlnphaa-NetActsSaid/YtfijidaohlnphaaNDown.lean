/- container/heap's down at a transit. No conditions beyond those in each statement. -/
import Derived.Test.YtfijidaohlnphaaNUp
namespace Go.Proofs.Ytfijidaohlnphaa
open Go.RowKit
set_option linter.unusedVariables false
set_option linter.unusedSimpArgs false
set_option maxRecDepth 100000

/-- The state of down's loop. -/
structure DnS (w0 w : World) (base nb : Nat) (now sent : Int) (v : Value) (L M : List Fl) (n i : Nat) : Prop where
  wr : NWr w0 w base nb now sent v M
  lt : i < M.length
  nM : n ≤ M.length
  perm : M.Perm L
  keep : ∀ k, n ≤ k → M.getD k Fl.zero = L.getD k Fl.zero
  down : DownI M n i
/-- The child that is first. -/
structure ChJ (M : List Fl) (n i j : Nat) : Prop where
  z : 0 < j
  lt : j < n
  up : (j - 1) / 2 = i
  ch : ∀ k, 0 < k → k < n → (k - 1) / 2 = i → lessF (M.getD k Fl.zero) (M.getD j Fl.zero) = false
theorem DnS.step {w0 w w' : World} {base nb : Nat} {now sent : Int} {v : Value} {L M : List Fl} {n i j : Nat} (h : DnS w0 w base nb now sent v L M n i) (hj : ChJ M n i j) (hl : lessF (M.getD j Fl.zero) (M.getD i Fl.zero) = true)
    (hw : NWr w0 w' base nb now sent v (swapL M i j)) : DnS w0 w' base nb now sent v L (swapL M i j) n j := by
  have h1 := hj.lt
  have h2 := h.nM
  have h3 := h.lt
  have h4 := hj.up
  have h5 := hj.z
  refine ⟨hw, by rw [swapL_len]; omega, by rw [swapL_len]; exact h2, (swapL_perm h3 (by omega)).trans h.perm, fun k hk => ?_, h.down.swap hj.z hj.lt h.nM hj.up hl hj.ch⟩
  rw [swapL_k h3 (by omega) (by omega) (by omega)]
  exact h.keep k hk
theorem ch_of {M : List Fl} {n i q : Nat} (hq : q = 2 * i + 1) (h : q < n) : (¬ q + 1 < n → ChJ M n i q) ∧ (lessF (M.getD (q + 1) Fl.zero) (M.getD q Fl.zero) = false → ChJ M n i q) ∧ (q + 1 < n → lessF (M.getD (q + 1) Fl.zero) (M.getD q Fl.zero) = true → ChJ M n i (q + 1)) := by
  refine ⟨fun h1 => ⟨by omega, h, by omega, fun k k0 kn kp => ?_⟩, fun h1 => ⟨by omega, h, by omega, fun k k0 kn kp => ?_⟩, fun h0 h1 => ⟨by omega, h0, by omega, fun k k0 kn kp => ?_⟩⟩
  · obtain rfl : k = q := by omega
    exact le_self _
  · have : k = q ∨ k = q + 1 := by omega
    rcases this with rfl | rfl
    · exact le_self _
    · exact h1
  · have : k = q ∨ k = q + 1 := by omega
    rcases this with rfl | rfl
    · exact le_of_less h1
    · exact le_self _
set_option maxHeartbeats 4000000 in
theorem down_any {w : World} {base nb : Nat} {now sent : Int} {v : Value} {L : List Fl} (h : NRow w base v L) (hn : NBx w nb now sent v) (n : Nat) (h0 : 0 < L.length) (hL : n ≤ L.length) (hd : DownI L n 0) :
    Calls Try.prog 21 #[.iface 54 (.pointer (some ⟨nb, 2, none⟩)), .int .i64 0, .int .i64 n] w fun e w' => ∃ x, e = .returned x ∧ ∃ M, M.Perm L ∧ HeapL M n ∧ (∀ k, n ≤ k → M.getD k Fl.zero = L.getD k Fl.zero) ∧ NWr w w' base nb now sent v M := by
  have HS : Hid (DnS w w base nb now sent v L L n 0) := Lib.hid ⟨⟨h, hn, ⟨rfl, rfl, rfl, Nat.le_refl _, fun _ _ _ => rfl⟩⟩, h0, hL, List.Perm.refl _, fun _ _ => rfl, hd⟩
  have hn2 : n ≤ 2000 := by have := h.1; omega
  have HN2 := Lib.hid hn2
  clear h hn h0 hL hd hn2
  go_enter Try.func21, Try.ntmps21
  go_wp2_with fail
  go_loopw [7] (fun jv wr => ∃ (i : Nat) (M : List Fl), jv = .int .i64 i ∧ Hid (DnS w wr base nb now sent v L M n i)) (fun jv _ => n - (intOf jv).toNat)
  case atStart => exact ⟨0, L, rfl, HS⟩
  case round =>
    obtain ⟨i, M, rfl, HR⟩ := hrel
    clear HS
    have hlt := HR.out.lt
    have hl2 := HR.out.wr.row.1
    have hn2 := HN2.out
    obtain ⟨q, hq⟩ : ∃ q, q = 2 * i + 1 := ⟨_, rfl⟩
    have HQ := Lib.hid hq
    have e1 : wrap64 (wrap64 (2 * (i : Int)) + 1) = (q : Int) := by rw [IntWalk.wrap64_in (2 * (i : Int)) (by omega), IntWalk.wrap64_in _ (by omega)]; omega
    have e2 : wrap64 ((q : Int) + 1) = (q : Int) + 1 := by rw [IntWalk.wrap64_in _ (by omega)]
    have c2 : decide ((q : Int) < 0) = false := decide_eq_false (by omega)
    by_cases hb : q < n
    · have c1 : decide ((n : Int) ≤ (q : Int)) = false := by simp; omega
      have c1' : ¬ ((n : Int) ≤ (q : Int)) := by omega
      have HLT := Lib.hid hb
      clear hq hlt hl2 hn2
      by_cases hr : q + 1 < n
      · have c3 : decide ((q : Int) + 1 < (n : Int)) = true := by simp; omega
        have HRN := Lib.hid hr
        have HLE : Hid (Calls Try.prog 38 #[v, .int .i64 ((q : Int) + 1), .int .i64 q] wr fun e w' => e = .returned (.bool (lessF (M.getD (q + 1) Fl.zero) (M.getD q Fl.zero))) ∧ NWr w w' base nb now sent v M) := Lib.hid (HR.out.wr.less (q + 1) q (Nat.lt_of_lt_of_le hr HR.out.nM) (Nat.lt_of_lt_of_le hb HR.out.nM))
        have mL := HR.out.wr.mL
        clear hb hr
        go_wp2_with fail
        refine HLE.out.mono ?_
        rintro e w6 ⟨rfl, HX6⟩
        have H6 := Lib.hid HX6
        clear HLE mL HX6
        cases hA : lessF (M.getD (q + 1) Fl.zero) (M.getD q Fl.zero) with
        | false =>
          have HJ := Lib.hid ((ch_of HQ.out HLT.out).2.1 hA)
          have HLE2 : Hid (Calls Try.prog 38 #[v, .int .i64 q, .int .i64 i] w6 fun e w' => e = .returned (.bool (lessF (M.getD q Fl.zero) (M.getD i Fl.zero))) ∧ NWr w w' base nb now sent v M) := Lib.hid (H6.out.less q i (Nat.lt_of_lt_of_le HJ.out.lt HR.out.nM) HR.out.lt)
          have mL2 := H6.out.mL
          clear hA
          go_wp2_with fail
          refine HLE2.out.mono ?_
          rintro e w7 ⟨rfl, HX7⟩
          have H7 := Lib.hid HX7
          have mS := HX7.mS
          clear mL2 HLE2 HX7
          cases hB : lessF (M.getD q Fl.zero) (M.getD i Fl.zero) with
          | false =>
            have HB := Lib.hid hB
            clear hB
            go_wp2_with fail
            go_ret
            exact ⟨_, rfl, M, HR.out.perm, HR.out.down.done (fun k k0 kn kp => le_trans' HB.out (HJ.out.ch k k0 kn kp)), HR.out.keep, H7.out⟩
          | true =>
            have HB := Lib.hid hB
            have HSW : Hid (Calls Try.prog 39 #[v, .int .i64 i, .int .i64 q] w7 fun e w' => e = .returned (.tuple #[]) ∧ NWr w w' base nb now sent v (swapL M i q)) := Lib.hid (H7.out.swap i q HR.out.lt (Nat.lt_of_lt_of_le HJ.out.lt HR.out.nM))
            clear hB
            go_wp2_with fail
            refine HSW.out.mono ?_
            rintro e w8 ⟨rfl, HX8⟩
            have H8 := Lib.hid HX8
            clear mS HSW HX8
            go_wp2_with fail
            go_roundw
            case rel => exact ⟨q, swapL M i q, rfl, Lib.hid (HR.out.step HJ.out HB.out H8.out)⟩
            case measure =>
              have h1 := HJ.out.lt
              have h2 := HJ.out.up
              have h3 := HJ.out.z
              simp [intOf]; omega
        | true =>
          have HJ := Lib.hid ((ch_of HQ.out HLT.out).2.2 HRN.out hA)
          obtain ⟨r, hr⟩ : ∃ r, r = q + 1 := ⟨_, rfl⟩
          rw [← hr] at HJ
          have e5 : (q : Int) + 1 = (r : Int) := by rw [hr]; rfl
          rw [e5] at e2 c3
          have HE5 := Lib.hid e5
          have HR1 := Lib.hid hr
          rw [e5]
          have HLE2 : Hid (Calls Try.prog 38 #[v, .int .i64 r, .int .i64 i] w6 fun e w' => e = .returned (.bool (lessF (M.getD r Fl.zero) (M.getD i Fl.zero))) ∧ NWr w w' base nb now sent v M) := Lib.hid (H6.out.less r i (Nat.lt_of_lt_of_le HJ.out.lt HR.out.nM) HR.out.lt)
          have mL2 := H6.out.mL
          clear hA hr e5
          go_wp2_with fail
          refine HLE2.out.mono ?_
          rintro e w7 ⟨rfl, HX7⟩
          have H7 := Lib.hid HX7
          have mS := HX7.mS
          clear mL2 HLE2 HX7
          cases hB : lessF (M.getD r Fl.zero) (M.getD i Fl.zero) with
          | false =>
            have HB := Lib.hid hB
            clear hB
            go_wp2_with fail
            go_ret
            exact ⟨_, rfl, M, HR.out.perm, HR.out.down.done (fun k k0 kn kp => le_trans' HB.out (HJ.out.ch k k0 kn kp)), HR.out.keep, H7.out⟩
          | true =>
            have HB := Lib.hid hB
            have HSW : Hid (Calls Try.prog 39 #[v, .int .i64 i, .int .i64 r] w7 fun e w' => e = .returned (.tuple #[]) ∧ NWr w w' base nb now sent v (swapL M i r)) := Lib.hid (H7.out.swap i r HR.out.lt (Nat.lt_of_lt_of_le HJ.out.lt HR.out.nM))
            clear hB
            go_wp2_with fail
            refine HSW.out.mono ?_
            rintro e w8 ⟨rfl, HX8⟩
            have H8 := Lib.hid HX8
            clear mS HSW HX8
            go_wp2_with fail
            go_roundw
            case rel => exact ⟨r, swapL M i r, rfl, Lib.hid (HR.out.step HJ.out HB.out H8.out)⟩
            case measure =>
              have h1 := HJ.out.lt
              have h2 := HJ.out.up
              have h3 := HJ.out.z
              simp [intOf]; omega
      · have c3 : decide ((q : Int) + 1 < (n : Int)) = false := by simp; omega
        have HJ := Lib.hid ((ch_of (M := M) HQ.out HLT.out).1 hr)
        have H6 := Lib.hid HR.out.wr
        clear hb hr
        have HLE2 : Hid (Calls Try.prog 38 #[v, .int .i64 q, .int .i64 i] wr fun e w' => e = .returned (.bool (lessF (M.getD q Fl.zero) (M.getD i Fl.zero))) ∧ NWr w w' base nb now sent v M) := Lib.hid (H6.out.less q i (Nat.lt_of_lt_of_le HJ.out.lt HR.out.nM) HR.out.lt)
        have mL2 := H6.out.mL
        skip
        go_wp2_with fail
        refine HLE2.out.mono ?_
        rintro e w7 ⟨rfl, HX7⟩
        have H7 := Lib.hid HX7
        have mS := HX7.mS
        clear mL2 HLE2 HX7
        cases hB : lessF (M.getD q Fl.zero) (M.getD i Fl.zero) with
        | false =>
          have HB := Lib.hid hB
          clear hB
          go_wp2_with fail
          go_ret
          exact ⟨_, rfl, M, HR.out.perm, HR.out.down.done (fun k k0 kn kp => le_trans' HB.out (HJ.out.ch k k0 kn kp)), HR.out.keep, H7.out⟩
        | true =>
          have HB := Lib.hid hB
          have HSW : Hid (Calls Try.prog 39 #[v, .int .i64 i, .int .i64 q] w7 fun e w' => e = .returned (.tuple #[]) ∧ NWr w w' base nb now sent v (swapL M i q)) := Lib.hid (H7.out.swap i q HR.out.lt (Nat.lt_of_lt_of_le HJ.out.lt HR.out.nM))
          clear hB
          go_wp2_with fail
          refine HSW.out.mono ?_
          rintro e w8 ⟨rfl, HX8⟩
          have H8 := Lib.hid HX8
          clear mS HSW HX8
          go_wp2_with fail
          go_roundw
          case rel => exact ⟨q, swapL M i q, rfl, Lib.hid (HR.out.step HJ.out HB.out H8.out)⟩
          case measure =>
            have h1 := HJ.out.lt
            have h2 := HJ.out.up
            have h3 := HJ.out.z
            simp [intOf]; omega
    · have c1 : decide ((n : Int) ≤ (q : Int)) = true := by simp; omega
      have c1' : (n : Int) ≤ (q : Int) := by omega
      have HLT := Lib.hid hb
      clear hq hlt hl2 hn2 hb
      go_wp2_with fail
      go_ret
      exact ⟨_, rfl, M, HR.out.perm, HR.out.down.done (fun k k0 kn kp => by have := HLT.out; have := HQ.out; omega), HR.out.keep, HR.out.wr⟩
end Go.Proofs.Ytfijidaohlnphaa
