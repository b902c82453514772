/- Few acts? No conditions beyond those in each statement. -/
import Derived.Test.YtblcpihfnpgfiaaGreatDoorTreeActs9
namespace Go.Proofs.YtblcpihfnpgfiaaGreatDoor
open Go.RowKit
set_option linter.unusedVariables false
set_option linter.unusedSimpArgs false
set_option maxRecDepth 100000

def fewA (q : Aq) : Bool := decide (q.a.path.length ≤ 12 ∧ q.a.data.size ≤ 200 ∧ q.a.raw.size ≤ 100)
def few9 (qs : List Aq) : Bool := qs.all fewA && decide (qs.length ≤ 40)
theorem few9_at {qs : List Aq} (h : few9 qs = true) {k : Nat} (hk : k < qs.length) : (qs.getD k aq0).a.path.length ≤ 12 ∧ (qs.getD k aq0).a.data.size ≤ 200 ∧ (qs.getD k aq0).a.raw.size ≤ 100 ∧ qs.length ≤ 40 := by
  unfold few9 at h
  rw [Bool.and_eq_true] at h
  have hm : qs.getD k aq0 ∈ qs := by
    rw [List.getD_eq_getElem?_getD, List.getElem?_eq_getElem hk]
    exact List.getElem_mem hk
  have := List.all_eq_true.1 h.1 _ hm
  simp [fewA] at this
  exact ⟨this.1, this.2.1, this.2.2, by simpa using h.2⟩
set_option maxHeartbeats 4000000 in
theorem few9_any (a : Option Addr) (cap : Nat) (qs : List Aq) (w : World) (h : Acts9 w (.slice a qs.length cap) qs) :
    Calls Tryz.prog 7 #[.slice a qs.length cap] w fun e w' => e = .returned (.bool (few9 qs)) ∧ Below w.heap.size w w' := by
  have hlen : qs.length ≤ 9223372036854775807 := by obtain ⟨_, _, _, hm, _⟩ := h; unfold maxLen at hm; omega
  have HA := Lib.hid h
  clear h
  go_enter Tryz.func7, Tryz.ntmps7
  go_wp2_with fail
  go_loopw [7] (fun i wr => ∃ k : Nat, k ≤ qs.length ∧ i = .int .i64 k ∧ Hid (∀ x ∈ qs.take k, fewA x = true) ∧ Below w.heap.size w wr) (fun i _ => qs.length - (intOf i).toNat)
  case atStart => exact ⟨0, Nat.zero_le _, rfl, Lib.hid (by simp), Below.refl _ _⟩
  case round =>
    obtain ⟨k, hk, rfl, HALL, hb⟩ := hrel
    by_cases hlt : k < qs.length
    · obtain ⟨hok, hpv, g, off, rfl, h0, h1, h2, h3, h4, h5, h6⟩ := act9_at HA.out hb hlt
      have hsz := hok.data
      have hsr := hok.raw
      unfold maxLen at hsz hsr
      have HT := Lib.hid (show qs.take (k + 1) = qs.take k ++ [qs.getD k aq0] by rw [List.take_succ_eq_append_getElem hlt, List.getD_eq_getElem?_getD, List.getElem?_eq_getElem hlt]; rfl)
      have HMEM := Lib.hid (show qs.getD k aq0 ∈ qs by rw [List.getD_eq_getElem?_getD, List.getElem?_eq_getElem hlt]; exact List.getElem_mem hlt)
      have t2 : IntKind.i64.wrap ((k : Int) + 1) = (k : Int) + 1 := by
        have := hlen
        exact IntWalk.i64_in _ (by omega)
      clear hok
      generalize qs.getD k aq0 = x at *
      obtain ⟨fa, fcap, hfv, _, hfm, _⟩ := hpv.1
      obtain ⟨⟨ak, av, ao, ap, ar, ad, asr⟩, pv⟩ := x
      simp only at *
      subst hfv
      have hpl : ap.length ≤ 9223372036854775807 := by unfold maxLen at hfm; omega
      have hk0 : (0 : Int) ≤ (k : Int) := by omega
      have hki : (k : Int) < (qs.length : Int) := by omega
      clear hpv
      have bA := hb.alloc hb.size (.cells #[.int .i64 ak, .int .i64 av, .int .i64 ao, .slice fa ap.length fcap, .string ar, .string ad, .bool asr] 31)
      by_cases hs : fewA ⟨⟨ak, av, ao, ap, ar, ad, asr⟩, .slice fa ap.length fcap⟩ = true
      · have HX := Lib.hid hs
        simp [fewA] at hs
        obtain ⟨s1, s2, s3⟩ := hs
        have d1 : decide ((12 : Int) < (ap.length : Int)) = false := by simp; omega
        have d2 : decide ((200 : Int) < (ad.size : Int)) = false := by simp; omega
        have d3 : decide ((100 : Int) < (ar.size : Int)) = false := by simp; omega
        go_wp2_with fail
        go_roundw
        case rel => exact ⟨k + 1, by omega, by go_num, Lib.hid (by rw [HT.out]; intro y hy; rcases List.mem_append.1 hy with hy | hy; exact HALL.out y hy; rw [List.mem_singleton.1 hy]; exact HX.out), bA⟩
        case measure => simp [intOf]; omega
      · have HF := Lib.hid (show few9 qs = false by
          unfold few9
          rw [List.all_eq_false.2 ⟨_, HMEM.out, hs⟩]; rfl)
        have hs' : 12 < ap.length ∨ (ap.length ≤ 12 ∧ 200 < ad.size) ∨ (ap.length ≤ 12 ∧ ad.size ≤ 200 ∧ 100 < ar.size) := by
          simp [fewA] at hs; omega
        clear hs
        rcases hs' with s1 | ⟨s1, s2⟩ | ⟨s1, s2, s3⟩
        · have d1 : decide ((12 : Int) < (ap.length : Int)) = true := by simp; omega
          go_wp2_with fail
          go_ret
          exact ⟨by rw [HF.out]; rfl, bA⟩
        · have d1 : decide ((12 : Int) < (ap.length : Int)) = false := by simp; omega
          have d2 : decide ((200 : Int) < (ad.size : Int)) = true := by simp; omega
          go_wp2_with fail
          go_ret
          exact ⟨by rw [HF.out]; rfl, bA⟩
        · have d1 : decide ((12 : Int) < (ap.length : Int)) = false := by simp; omega
          have d2 : decide ((200 : Int) < (ad.size : Int)) = false := by simp; omega
          have d3 : decide ((100 : Int) < (ar.size : Int)) = true := by simp; omega
          go_wp2_with fail
          go_ret
          exact ⟨by rw [HF.out]; rfl, bA⟩
    · obtain rfl : k = qs.length := by omega
      have HF := Lib.hid (show few9 qs = decide (qs.length ≤ 40) by
        have := HALL.out
        rw [List.take_length] at this
        unfold few9
        rw [List.all_eq_true.2 this]; rfl)
      clear hlt
      by_cases h60 : qs.length ≤ 40
      · have HF2 := Lib.hid (show few9 qs = true by rw [HF.out]; simpa using h60)
        have hd : decide ((qs.length : Int) ≤ 40) = true := by simp; omega
        go_wp2_with fail
        go_ret
        exact ⟨(by rw [HF2.out]; rfl), hb⟩
      · have HF2 := Lib.hid (show few9 qs = false by rw [HF.out]; simpa using h60)
        have hd : decide ((qs.length : Int) ≤ 40) = false := by simp; omega
        go_wp2_with fail
        go_ret
        exact ⟨(by rw [HF2.out]; rfl), hb⟩
end Go.Proofs.YtblcpihfnpgfiaaGreatDoor
