/- same: a device that reads as the model does is found to be the same; Few. No conditions beyond those in each statement. -/
import Derived.Test.YtmfkbddfjfjfkaaMdRead
import Derived.Deep.QuietTactic
import Derived.BigQuiet
namespace Go.Proofs.Ytmfkbddfjfjfkaa
open Go.RowKit
set_option linter.unusedVariables false

section
variable {S T : Nat → Prop} {w : World} {B C : Nat} {D : Dv} {M : Md}
theorem below_drewN (w : World) (n : Nat) : Below w.heap.size w (w.drewN n) := ⟨rfl, rfl, rfl, Nat.le_refl _, fun _ _ => rfl⟩
set_option maxHeartbeats 1000000 in
theorem same_any (hd : DevAt S w B D) (hm : MdAt T w C M) (hw : D.writes ≤ 1073741824) (hsz : D.bs.length = M.safe.length) (hdn : D.down = M.down) (hr : ∀ i, D.read i = M.read i) :
    Calls Try.prog 14 #[.pointer (some ⟨B, 0, none⟩), .pointer (some ⟨C, 0, none⟩)] w fun e w' => e = .returned (.bool true) ∧ Below w.heap.size w w' := by
  have HD := Lib.hid hd
  have HM := Lib.hid hm
  have hmany := hm.fits.many
  obtain ⟨RS, RG, RH, sv, h0⟩ := id hm
  have c0 := h0.c0
  have c6 := h0.c6
  have HSZ := Lib.hid (fun (n : Nat) => show Calls Try.prog 15 #[.pointer (some ⟨B, 0, none⟩)] (w.drewN n) fun e w' => e = .returned (.int .i64 M.safe.length) ∧ w' = w.drewN n from (size_any (hd.below (below_drewN w n))).mono fun e w' ⟨h1, h2⟩ => ⟨by rw [h1, hsz], h2.symm⟩)
  have HDN := Lib.hid (fun (n : Nat) => show Calls Try.prog 21 #[.pointer (some ⟨B, 0, none⟩)] (w.drewN n) fun e w' => e = .returned (.bool M.down) ∧ w' = w.drewN n from (down_any (hd.below (below_drewN w n))).mono fun e w' ⟨h1, h2⟩ => ⟨by rw [h1, hdn], h2.symm⟩)
  have HR := Lib.hid hr
  clear hd hm h0 hsz hdn hr
  go_enter Try.func14, Try.ntmps14
  go_wp2
  go_quiet (first
    | (go_at_call 15; exact Calls.quiet_of_same (HSZ.out _))
    | (go_at_call 21; exact Calls.quiet_of_same (HDN.out _)))
  have hb1 := below_drewN w nq
  generalize w.drewN nq = w1 at *
  go_wp2
  go_loopw [5] (fun i wr => ∃ k : Int, -1 ≤ k ∧ k ≤ (M.safe.length : Int) + 1 ∧ i = .int .i64 k ∧ Below w.heap.size w wr) (fun i _ => ((M.safe.length : Int) + 1 - intOf i).toNat)
  case atStart => exact ⟨-1, by omega, by omega, rfl, hb1⟩
  case round =>
    obtain ⟨k, hk1, hk2, rfl, hb⟩ := hrel
    clear hb1
    have x0 := (HM.out.below hb)
    obtain ⟨RS', RG', RH', sv', h1⟩ := id x0
    have y0 := h1.c0
    by_cases hlt : k ≤ (M.safe.length : Int)
    · have hrd := read_any k (HD.out.below hb) (by omega)
      rw [HR.out k] at hrd
      have HMR := Lib.hid (fun (W : World) (hW : Below w.heap.size w W) => mread_any k (HM.out.below hW))
      clear h1 x0
      generalize M.read k = r at *
      obtain ⟨r1, r2⟩ := r
      go_wp2_with (first
        | (go_at_call 19; refine hrd.mono ?_; rintro e w3 ⟨rfl, hb3⟩; have hB3 := hb.trans (hb3.mono hb.size))
        | (go_at_call 26; refine (HMR.out _ hB3).mono ?_; rintro e w4 ⟨rfl, hb4⟩; have hB4 := hB3.trans (hb4.mono hB3.size)))
      go_roundw
      case rel => exact ⟨k + 1, by omega, by omega, by go_num, hB4⟩
      case measure => simp [intOf]; omega
    · clear h1 x0
      go_wp2
      go_ret
      exact ⟨rfl, hb⟩
end

/-- An act of the law's. -/
structure Ac where
  k : Int
  block : Int
  n : Int
  data : ByteArray
  bits : Nat
abbrev acV (a : Ac) : Value := .agg #[.int .i64 a.k, .int .i64 a.block, .int .i64 a.n, .string a.data, .int .u8 a.bits]
def ac0 : Ac := ⟨0, 0, 0, ByteArray.empty, 0⟩
def i64in (n : Int) : Prop := -9223372036854775808 ≤ n ∧ n ≤ 9223372036854775807
structure Ac.Ok (a : Ac) : Prop where
  k : i64in a.k
  block : i64in a.block
  n : i64in a.n
  data : a.data.size ≤ maxLen
  bits : a.bits < 256
/-- A slice of acts that can be read. -/
def Acts (w : World) (v : Value) (qs : List Ac) : Prop :=
  ∃ a cap, v = .slice a qs.length cap ∧ qs.length ≤ maxLen ∧ (∀ x ∈ qs, x.Ok) ∧ (qs.length = 0 ∨ ∃ g off, a = some ⟨g, off, none⟩ ∧ g < w.heap.size ∧ ∀ j, j < qs.length →
    w.cell? ⟨g, off + j * 5, none⟩ = some (.int .i64 (qs.getD j ac0).k) ∧ w.cell? ⟨g, off + j * 5 + 1, none⟩ = some (.int .i64 (qs.getD j ac0).block) ∧ w.cell? ⟨g, off + j * 5 + 2, none⟩ = some (.int .i64 (qs.getD j ac0).n) ∧
    w.cell? ⟨g, off + j * 5 + 3, none⟩ = some (.string (qs.getD j ac0).data) ∧ w.cell? ⟨g, off + j * 5 + 4, none⟩ = some (.int .u8 (qs.getD j ac0).bits))
theorem Acts.below {w x : World} {v : Value} {qs : List Ac} (h : Acts w v qs) (hb : Below w.heap.size w x) : Acts x v qs := by
  obtain ⟨a, cap, hv, hm, ho, h⟩ := h
  refine ⟨a, cap, hv, hm, ho, h.imp id ?_⟩
  rintro ⟨g, off, ha, hg, hc⟩
  refine ⟨g, off, ha, Nat.lt_of_lt_of_le hg hb.size, fun j hj => ?_⟩
  obtain ⟨h0, h1, h2, h3, h4⟩ := hc j hj
  exact ⟨(hb.cell (p := ⟨g, _, none⟩) hg).trans h0, (hb.cell (p := ⟨g, _, none⟩) hg).trans h1, (hb.cell (p := ⟨g, _, none⟩) hg).trans h2, (hb.cell (p := ⟨g, _, none⟩) hg).trans h3, (hb.cell (p := ⟨g, _, none⟩) hg).trans h4⟩
/-- The cells of an act, in a world that has grown. -/
theorem act_at {w x : World} {a : Option Addr} {cap k : Nat} {qs : List Ac} (h : Acts w (.slice a qs.length cap) qs) (hb : Below w.heap.size w x) (hk : k < qs.length) : (qs.getD k ac0).Ok ∧
    ∃ g off, a = some ⟨g, off, none⟩ ∧ x.cell? ⟨g, off + k * 5, none⟩ = some (.int .i64 (qs.getD k ac0).k) ∧ x.cell? ⟨g, off + k * 5 + 1, none⟩ = some (.int .i64 (qs.getD k ac0).block) ∧ x.cell? ⟨g, off + k * 5 + 2, none⟩ = some (.int .i64 (qs.getD k ac0).n) ∧
    x.cell? ⟨g, off + k * 5 + 3, none⟩ = some (.string (qs.getD k ac0).data) ∧ x.cell? ⟨g, off + k * 5 + 4, none⟩ = some (.int .u8 (qs.getD k ac0).bits) := by
  obtain ⟨_, _, e0, _, ho, h⟩ := h.below hb
  obtain ⟨rfl, rfl⟩ : a = _ ∧ cap = _ := by simpa using e0
  refine ⟨?_, ?_⟩
  · rw [List.getD_eq_getElem?_getD, List.getElem?_eq_getElem hk]
    exact ho _ (List.getElem_mem hk)
  · rcases h with h | ⟨g, off, rfl, hg, hc⟩
    · omega
    · exact ⟨g, off, rfl, hc k hk⟩

/-- Few acts, of few bytes? -/
def fewB (qs : List Ac) : Bool := qs.all (fun a => decide (a.data.size ≤ 600)) && decide (qs.length ≤ 60)
set_option maxHeartbeats 1000000 in
theorem few_any (a : Option Addr) (cap : Nat) (qs : List Ac) (w : World) (h : Acts w (.slice a qs.length cap) qs) :
    Calls Try.prog 9 #[.slice a qs.length cap] w fun e w' => e = .returned (.bool (fewB qs)) ∧ Below w.heap.size w w' := by
  have hlen : qs.length ≤ 9223372036854775807 := by obtain ⟨_, _, _, hm, _⟩ := h; unfold maxLen at hm; omega
  have HA := Lib.hid h
  clear h
  go_enter Try.func9, Try.ntmps9
  go_wp2
  go_loopw [7] (fun i wr => ∃ k : Nat, k ≤ qs.length ∧ i = .int .i64 k ∧ (∀ x ∈ qs.take k, x.data.size ≤ 600) ∧ Below w.heap.size w wr) (fun i _ => qs.length - (intOf i).toNat)
  case atStart => exact ⟨0, Nat.zero_le _, rfl, by simp, Below.refl _ _⟩
  case round =>
    obtain ⟨k, hk, rfl, hall, hb⟩ := hrel
    have HALL := Lib.hid hall
    clear hall
    by_cases hlt : k < qs.length
    · obtain ⟨hok, g, off, rfl, h0, h1, h2, h3, h4⟩ := act_at HA.out hb hlt
      have hsz := hok.data
      unfold maxLen at hsz
      have HT := Lib.hid (show qs.take (k + 1) = qs.take k ++ [qs.getD k ac0] by rw [List.take_succ_eq_append_getElem hlt, List.getD_eq_getElem?_getD, List.getElem?_eq_getElem hlt]; rfl)
      have HMEM := Lib.hid (show qs.getD k ac0 ∈ qs by rw [List.getD_eq_getElem?_getD, List.getElem?_eq_getElem hlt]; exact List.getElem_mem hlt)
      clear hok
      generalize qs.getD k ac0 = x at *
      by_cases hs : 600 < x.data.size
      · have hd : decide ((600 : Int) < (x.data.size : Int)) = true := by simp; omega
        have HF := Lib.hid (show fewB qs = false by
          unfold fewB
          rw [List.all_eq_false.2 ⟨x, HMEM.out, by simp; omega⟩]
          rfl)
        clear hs
        go_wp2
        go_ret
        exact ⟨(by rw [HF.out]; rfl), hb.alloc hb.size _⟩
      · have hd : decide ((600 : Int) < (x.data.size : Int)) = false := by simp; omega
        have HX := Lib.hid (show x.data.size ≤ 600 by omega)
        clear hs
        go_wp2
        go_roundw
        case rel => exact ⟨k + 1, by omega, by go_num, (by rw [HT.out]; intro y hy; rcases List.mem_append.1 hy with hy | hy; exact HALL.out y hy; rw [List.mem_singleton.1 hy]; exact HX.out), hb.alloc hb.size _⟩
        case measure => simp [intOf]; omega
    · obtain rfl : k = qs.length := by omega
      have HF := Lib.hid (show fewB qs = decide (qs.length ≤ 60) by
        have := HALL.out
        rw [List.take_length] at this
        unfold fewB
        rw [List.all_eq_true.2 (fun x hx => by simpa using this x hx)]
        rfl)
      clear hlt
      by_cases h60 : qs.length ≤ 60
      · have HF2 := Lib.hid (show fewB qs = true by rw [HF.out]; simpa using h60)
        have hd : decide ((qs.length : Int) ≤ 60) = true := by simp; omega
        go_wp2
        go_ret
        exact ⟨(by rw [HF2.out]; rfl), hb⟩
      · have HF2 := Lib.hid (show fewB qs = false by rw [HF.out]; simpa using h60)
        have hd : decide ((qs.length : Int) ≤ 60) = false := by simp; omega
        go_wp2
        go_ret
        exact ⟨(by rw [HF2.out]; rfl), hb⟩
end Go.Proofs.Ytmfkbddfjfjfkaa
