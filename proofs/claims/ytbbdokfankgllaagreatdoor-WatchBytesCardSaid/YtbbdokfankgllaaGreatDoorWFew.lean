/- Few acts? No conditions beyond those in each statement. -/
import Derived.Test.YtbbdokfankgllaaGreatDoorWArgs
namespace Go.Proofs.YtbbdokfankgllaaGreatDoor
open Go.ChangeShapes Go.WideShapes Go.ChangeAt Go.Deep Go.RowKit
set_option linter.unusedVariables false
set_option maxRecDepth 100000

def fewA (q : Aq) : Bool := decide (q.a.path.length ≤ 12)
def few11 (qs : List Aq) : Bool := qs.all fewA && decide (qs.length ≤ 60)
theorem few11_at {qs : List Aq} (h : few11 qs = true) {k : Nat} (hk : k < qs.length) : (qs.getD k aq0).a.path.length ≤ 12 ∧ qs.length ≤ 60 := by
  unfold few11 at h
  rw [Bool.and_eq_true] at h
  have hm : qs.getD k aq0 ∈ qs := by
    rw [List.getD_eq_getElem?_getD, List.getElem?_eq_getElem hk]
    exact List.getElem_mem hk
  have := List.all_eq_true.1 h.1 _ hm
  simp [fewA] at this
  exact ⟨this, by simpa using h.2⟩
set_option maxHeartbeats 4000000 in
theorem few11_any (a : Option Addr) (cap : Nat) (qs : List Aq) (w : World) (h : Acts11 w (.slice a qs.length cap) qs) :
    Calls Tryz.prog 5 #[.slice a qs.length cap] w fun e w' => e = .returned (.bool (few11 qs)) ∧ Below w.heap.size w w' := by
  have hlen : qs.length ≤ 9223372036854775807 := by obtain ⟨_, _, _, hm, _⟩ := h; unfold maxLen at hm; omega
  have HA := Lib.hid h
  clear h
  go_enter Tryz.func5, Tryz.ntmps5
  go_wp2_with fail
  go_loopw [4, 7] (fun _ i wr => ∃ k : Nat, k ≤ qs.length ∧ i = .int .i64 k ∧ Hid (∀ x ∈ qs.take k, fewA x = true) ∧ Below w.heap.size w wr) (fun _ i _ => qs.length - (intOf i).toNat)
  case atStart => exact ⟨0, Nat.zero_le _, rfl, Lib.hid (by simp), Below.refl _ _⟩
  case round =>
    obtain ⟨k, hk, rfl, HALL, hb⟩ := hrel
    by_cases hlt : k < qs.length
    · obtain ⟨hok, hints, g, off, rfl, h0, h1, h2, h3, h4, h5⟩ := act11_at HA.out hb hlt
      have HT := Lib.hid (show qs.take (k + 1) = qs.take k ++ [qs.getD k aq0] by rw [List.take_succ_eq_append_getElem hlt, List.getD_eq_getElem?_getD, List.getElem?_eq_getElem hlt]; rfl)
      have HMEM := Lib.hid (show qs.getD k aq0 ∈ qs by rw [List.getD_eq_getElem?_getD, List.getElem?_eq_getElem hlt]; exact List.getElem_mem hlt)
      have t2 : IntKind.i64.wrap ((k : Int) + 1) = (k : Int) + 1 := by
        have := hlen
        exact IntWalk.i64_in _ (by omega)
      clear hok
      generalize qs.getD k aq0 = x at *
      obtain ⟨⟨ak, az, an, ap, ad, ao⟩, pv⟩ := x
      simp only at *
      obtain ⟨⟨pa, pc, rfl, _⟩, _⟩ := hints
      have hk0 : (0 : Int) ≤ (k : Int) := by omega
      have hki : (k : Int) < (qs.length : Int) := by omega
      have bA := hb.alloc hb.size (.cells #[.int .i64 ak, .int .i64 az, .int .i64 an, .slice pa ap.length pc, .bool ad, .bool ao] 35)
      by_cases hs : ap.length ≤ 12
      · have HX := Lib.hid (show fewA ⟨⟨ak, az, an, ap, ad, ao⟩, .slice pa ap.length pc⟩ = true by simpa [fewA] using hs)
        have d2 : decide ((12 : Int) < (ap.length : Int)) = false := by simp; omega
        clear hs
        go_wp2_with fail
        go_roundw
        case rel => exact ⟨k + 1, by omega, by go_num, Lib.hid (by rw [HT.out]; intro y hy; rcases List.mem_append.1 hy with hy | hy; exact HALL.out y hy; rw [List.mem_singleton.1 hy]; exact HX.out), bA⟩
        case measure => simp [intOf]; omega
      · have HF := Lib.hid (show few11 qs = false by
          unfold few11
          rw [List.all_eq_false.2 ⟨_, HMEM.out, by simpa [fewA] using hs⟩]; rfl)
        have d2 : decide ((12 : Int) < (ap.length : Int)) = true := by simp; omega
        clear hs
        go_wp2_with fail
        go_ret
        exact ⟨by rw [HF.out]; rfl, bA⟩
    · obtain rfl : k = qs.length := by omega
      have HF := Lib.hid (show few11 qs = decide (qs.length ≤ 60) by
        have := HALL.out
        rw [List.take_length] at this
        unfold few11
        rw [List.all_eq_true.2 this]; rfl)
      clear hlt
      by_cases h60 : qs.length ≤ 60
      · have HF2 := Lib.hid (show few11 qs = true by rw [HF.out]; simpa using h60)
        have hd : decide ((qs.length : Int) ≤ 60) = true := by simp; omega
        go_wp2_with fail
        go_ret
        exact ⟨(by rw [HF2.out]; rfl), hb⟩
      · have HF2 := Lib.hid (show few11 qs = false by rw [HF.out]; simpa using h60)
        have hd : decide ((qs.length : Int) ≤ 60) = false := by simp; omega
        go_wp2_with fail
        go_ret
        exact ⟨(by rw [HF2.out]; rfl), hb⟩
end Go.Proofs.YtbbdokfankgllaaGreatDoor
