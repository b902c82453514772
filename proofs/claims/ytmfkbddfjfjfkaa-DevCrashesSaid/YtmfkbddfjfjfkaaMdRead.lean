/- The model's Read; no condition. -/
import Derived.Test.YtmfkbddfjfjfkaaMdNew
namespace Go.Proofs.Ytmfkbddfjfjfkaa
open Go.RowKit
set_option linter.unusedVariables false

/-- What block k contains behind the writes ps, if it contained s. -/
def lastAt (k : Nat) (s : ByteArray) : List Wr → ByteArray := List.foldl (fun s p => if p.place = k then p.data else s) s
theorem lastAt_snoc (k : Nat) (s : ByteArray) (ps : List Wr) (p : Wr) : lastAt k s (ps ++ [p]) = if p.place = k then p.data else lastAt k s ps := by simp [lastAt]
def Md.read (M : Md) (i : Int) : ByteArray × Int :=
  if M.down then (⟨#[]⟩, 5) else if M.inB i then (if M.gone.getD i.toNat false then (⟨#[]⟩, 6) else (lastAt i.toNat (M.safe.getD i.toNat ⟨#[]⟩) M.since, 0)) else (⟨#[]⟩, 7)

/-- A slice of the model's writes: nil, or a row whose cells are known. -/
theorem mrow_of {w : World} {v : Value} {ps : List Wr} (h : w.ownsRow 0 65 2 v ps.length (wrCells ps)) :
    (v = .slice none 0 0 ∧ ps = []) ∨ ∃ g cap, v = .slice (some ⟨g, 0, none⟩) ps.length cap ∧ g < w.heap.size ∧ ps.length ≤ cap ∧ cap ≤ maxLen ∧ ∀ j p, ps[j]? = some p → w.cell? ⟨g, j * 2, none⟩ = some (.int .i64 p.place) ∧ w.cell? ⟨g, j * 2 + 1, none⟩ = some (.string p.data) := by
  rcases id h.2 with ⟨rfl, hn⟩ | ⟨g, cap, cur, rfl, _, hg, hl, hm, _, _⟩
  · exact .inl ⟨rfl, List.eq_nil_of_length_eq_zero hn⟩
  · refine .inr ⟨g, cap, rfl, lt_of_block hg, hl, hm, fun j p hp => ?_⟩
    obtain ⟨a, b⟩ := wrCells_at ps j p hp
    have ha := h.cells rfl _ _ a
    have hb := h.cells rfl _ _ b
    have hadd : ∀ j, (⟨g, 0, none⟩ : Addr).add j = ⟨g, j, none⟩ := fun j => by unfold Addr.add; split <;> simp_all
    rw [hadd] at ha hb
    exact ⟨ha, hb⟩

section
variable {S : Nat → Prop} {w : World} {B : Nat} {M : Md}
set_option maxHeartbeats 1000000 in
theorem mread_any (i : Int) (h : MdAt S w B M) :
    Calls Try.prog 26 #[.pointer (some ⟨B, 0, none⟩), .int .i64 i] w fun e w' => e = .returned (two (M.read i)) ∧ Below w.heap.size w w' := by
  have hin := in_any i h
  have hfit := h.fits
  obtain ⟨RS, RG, RH, sv, h0⟩ := h
  have c6 := h0.c6
  by_cases hd : M.down = true
  · have e0 : M.read i = (⟨#[]⟩, 5) := by simp [Md.read, hd]
    rw [e0]
    rw [hd] at c6
    clear hd e0 h0 hin
    go_enter Try.func26, Try.ntmps26
    go_wp2
    go_ret2
    exact ⟨rfl, Below.refl _ _⟩
  · have hd' : M.down = false := by simpa using hd
    rw [hd'] at c6
    clear hd
    by_cases hh : M.inB i = true
    · obtain ⟨k, s0, gk, tk, rfl, hk, hs, hg, ht⟩ := Md.in_at hfit hh
      have c1 := h0.c1
      have c2 := h0.c2
      have c3 := h0.c3
      have q1 := h0.s hs
      have q3 := h0.g hg
      have hmany := hfit.many
      rw [hh] at hin
      by_cases hl : gk = true
      · have e0 : M.read (k : Int) = (⟨#[]⟩, 6) := by simp [Md.read, hd', hh, hg, hl]
        rw [e0]
        rw [hl] at q3
        clear h0 hs hg ht hh e0 hl hd'
        go_enter Try.func26, Try.ntmps26
        go_wp2_with (go_at_call 25; refine hin.mono ?_; rintro e w' ⟨rfl, rfl⟩)
        go_ret2
        exact ⟨rfl, Below.refl _ _⟩
      · have hl' : gk = false := by simpa using hl
        have e0 : M.read (k : Int) = (lastAt k s0 M.since, 0) := by simp [Md.read, hd', hh, hg, hl', hs]
        rw [e0]
        rw [hl'] at q3
        have hrow := h0.row
        have hcnt := hfit.count
        have hsi := hfit.since
        clear h0 hs hg ht hh e0 hl hl' hd' hfit
        generalize M.since = ps at *
        by_cases hz : ps.length = 0
        · obtain rfl : ps = [] := List.eq_nil_of_length_eq_zero hz
          obtain ⟨sa, scap, rfl⟩ := slice_of hrow
          have HL := Lib.hid (show lastAt k s0 [] = s0 from rfl)
          clear hrow hz hsi hcnt
          go_enter Try.func26, Try.ntmps26
          go_wp2_with (go_at_call 25; refine hin.mono ?_; rintro e w' ⟨rfl, rfl⟩)
          go_loopw [36, 6] (fun i x wr => i = .int .i64 0 ∧ x = .string s0 ∧ Below w.heap.size w wr) (fun _ _ _ => 0)
          case atStart => exact ⟨rfl, rfl, Below.refl _ _⟩
          case round =>
            obtain ⟨rfl, rfl, hb⟩ := hrel
            go_wp2
            go_ret2
            exact ⟨(by first | rfl | (rw [HL.out]; rfl)), hb⟩
        · rcases mrow_of hrow with ⟨_, h0⟩ | ⟨g, cap, rfl, hgl, _, _, hcell⟩
          · exact absurd (by rw [h0]; rfl) hz
          · have HC := Lib.hid hcell
            have HSI := Lib.hid hsi
            clear hrow hcell hz hsi
            go_enter Try.func26, Try.ntmps26
            go_wp2_with (go_at_call 25; refine hin.mono ?_; rintro e w' ⟨rfl, rfl⟩)
            go_loopw [36, 6] (fun i x wr => ∃ j : Nat, j ≤ ps.length ∧ i = .int .i64 j ∧ x = .string (lastAt k s0 (ps.take j)) ∧ Below w.heap.size w wr) (fun i _ _ => ps.length - (intOf i).toNat)
            case atStart => exact ⟨0, Nat.zero_le _, rfl, rfl, Below.refl _ _⟩
            case round =>
              obtain ⟨j, hj, rfl, rfl, hb⟩ := hrel
              by_cases hlt : j < ps.length
              · have hp := List.getElem?_eq_getElem hlt
                have hL := lastAt_snoc k s0 (ps.take j) ps[j]
                rw [← List.take_succ_eq_append_getElem hlt] at hL
                have hcs := HC.out j _ hp
                have hpl := (HSI.out _ (List.getElem_mem hlt)).2
                generalize ps[j] = p at *
                have x0 := (hb.cell (p := ⟨g, j * 2, none⟩) hgl).trans hcs.1
                have x1 := (hb.cell (p := ⟨g, j * 2 + 1, none⟩) hgl).trans hcs.2
                have HL := Lib.hid hL
                clear hL hcs hp
                generalize lastAt k s0 (ps.take j) = s at *
                by_cases hpk : p.place = k
                · rw [hpk] at x0
                  have HE := Lib.hid (show (if p.place = k then p.data else s) = p.data from if_pos hpk)
                  clear hpk
                  go_wp2
                  go_roundw
                  case rel => exact ⟨j + 1, by omega, by go_num, by rw [HL.out, HE.out], hb.alloc hb.size _⟩
                  case measure => simp [intOf]; omega
                · have HE := Lib.hid (show (if p.place = k then p.data else s) = s from if_neg hpk)
                  have hne : ((p.place : Int) == (k : Int)) = false := by simp; omega
                  clear hpk
                  go_wp2
                  go_roundw
                  case rel => exact ⟨j + 1, by omega, by go_num, by rw [HL.out, HE.out], hb.alloc hb.size _⟩
                  case measure => simp [intOf]; omega
              · obtain rfl : j = ps.length := by omega
                have HL := Lib.hid (show ps.take ps.length = ps from List.take_length)
                clear hlt hj
                go_wp2
                go_ret2
                exact ⟨(by first | rfl | (rw [HL.out]; rfl)), hb⟩
    · have hh' : M.inB i = false := by simpa using hh
      have e0 : M.read i = (⟨#[]⟩, 7) := by simp [Md.read, hd', hh']
      rw [e0]
      rw [hh'] at hin
      clear hh hh' e0 hd' h0
      go_enter Try.func26, Try.ntmps26
      go_wp2_with (go_at_call 25; refine hin.mono ?_; rintro e w' ⟨rfl, rfl⟩)
      go_ret2
      exact ⟨rfl, Below.refl _ _⟩
end
end Go.Proofs.Ytmfkbddfjfjfkaa
