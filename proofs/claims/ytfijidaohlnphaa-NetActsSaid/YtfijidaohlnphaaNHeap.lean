/- container/heap's Push and Pop at a transit. No conditions beyond those in each statement. -/
import Derived.Test.YtfijidaohlnphaaNDown
namespace Go.Proofs.Ytfijidaohlnphaa
open Go.RowKit
set_option linter.unusedVariables false
set_option linter.unusedSimpArgs false
set_option maxRecDepth 100000

/-- A net: its box, and its row in heap order. -/
structure NHp (w : World) (base nb : Nat) (now sent : Int) (v : Value) (L : List Fl) : Prop where
  row : NRow w base v L
  box : NBx w nb now sent v
  heap : HeapL L L.length
  low : base ≤ nb
/-- Which row is there behind a call. -/
def OwnN (w : World) (v v' : Value) : Prop := v'.ownBlock = v.ownBlock ∨ ∃ q, v'.ownBlock = some q ∧ w.heap.size ≤ q
set_option maxHeartbeats 4000000 in
theorem hpush_any {w : World} {base nb : Nat} {now sent : Int} {v : Value} {L : List Fl} (h : NHp w base nb now sent v L) (hl : L.length < 2000) (f : Fl) (hf : FlB w f) :
    Calls Try.prog 15 #[.iface 54 (.pointer (some ⟨nb, 2, none⟩)), .iface 55 f.ptr] w fun e w' => e = .returned (.tuple #[]) ∧ ∃ v' M, M.Perm (L ++ [f]) ∧ NHp w' base nb now sent v' M ∧ OwnN w v v' ∧ FrN nb v.ownBlock w w' := by
  have mP := mPush w nb
  have HP := Lib.hid (tpush_any h.row h.box hl (by have := h.low; have := h.box.lt; omega) f hf)
  have HH := Lib.hid h
  have HL := Lib.hid hl
  clear h hl hf
  go_enter Try.func15, Try.ntmps15
  go_wp2_with fail
  refine HP.out.mono ?_
  rintro e w1 ⟨rfl, v1, r1, b1, o1, f1⟩
  have R1 := Lib.hid r1
  have B1 := Lib.hid b1
  have O1 := Lib.hid o1
  have F1 := Lib.hid f1
  have mN := mLen b1.c2 r1.sl
  have HLE : Hid (Calls Try.prog 14 #[v1] w1 fun e w' => e = .returned (.int .i64 ((L.length : Int) + 1)) ∧ w' = w1) := Lib.hid (by
    obtain ⟨a, c, rfl, _⟩ := r1.form
    rw [show (L ++ [f]).length = L.length + 1 by simp]
    exact len_any a (L.length + 1) c w1)
  have HUP := Lib.hid (up_any r1 b1 L.length (by simp) (by rw [show (L ++ [f]).length = L.length + 1 by simp]; exact HH.out.heap.up f))
  have e1 : wrap64 (L.length : Int) = (L.length : Int) := IntWalk.wrap64_in _ (by have := HL.out; omega)
  clear mP HP r1 b1 o1 f1
  go_wp2_with fail
  refine HLE.out.mono ?_
  rintro e w2 ⟨rfl, rfl⟩
  clear mN HLE
  go_wp2_with fail
  refine HUP.out.mono ?_
  rintro e w2 ⟨rfl, M, hp, hh, hw⟩
  have HM := Lib.hid hp
  have HE := Lib.hid hh
  have HW := Lib.hid hw
  clear hp hh hw HUP
  go_wp2_with fail
  refine bodyPost_end (results_none rfl _ _ _) rfl ?_
  refine ⟨rfl, v1, M, HM.out, ⟨HW.out.row, HW.out.box, HE.out, HH.out.low⟩, O1.out, F1.out.trans (FrN.of_grown HW.out.gr) ?_⟩
  exact O1.out
theorem drop_perm {L M : List Fl} {n : Nat} (hL : L.length = n + 1) (hp : M.Perm (swapL L 0 n)) (hk : M.getD n Fl.zero = (swapL L 0 n).getD n Fl.zero) : (M.take n).Perm L.tail ∧ M.getD n Fl.zero = L.getD 0 Fl.zero := by
  have h0 : 0 < L.length := by omega
  have hn : n < L.length := by omega
  rw [swapL_j h0 hn] at hk
  refine ⟨?_, hk⟩
  have h1 := hp.trans (swapL_perm h0 hn)
  have hm : M.length = n + 1 := by rw [h1.length_eq]; exact hL
  have e1 : M = M.take n ++ [L.getD 0 Fl.zero] := by
    rw [← hk, ← take_snoc_getD M Fl.zero n (by omega), List.take_of_length_le (by omega)]
  have e2 : L = L.getD 0 Fl.zero :: L.tail := by
    cases L with
    | nil => simp at h0
    | cons a l => rfl
  rw [e1] at h1
  have h2 : (L.getD 0 Fl.zero :: M.take n).Perm (L.getD 0 Fl.zero :: L.tail) := by
    rw [← e2]
    exact List.perm_append_comm.trans h1 |> fun h => by simpa using h
  exact (List.perm_cons _).1 h2
set_option maxHeartbeats 4000000 in
theorem hpop_any {w : World} {base nb : Nat} {now sent : Int} {v : Value} {L : List Fl} (h : NHp w base nb now sent v L) (n : Nat) (hL : L.length = n + 1) :
    Calls Try.prog 17 #[.iface 54 (.pointer (some ⟨nb, 2, none⟩))] w fun e w' => e = .returned (.iface 55 (L.getD 0 Fl.zero).ptr) ∧ ∃ v' M, M.Perm L.tail ∧ NHp w' base nb now sent v' M ∧ OwnN w v v' ∧ FrN nb v.ownBlock w w' := by
  obtain ⟨f0, hf0⟩ : ∃ f, f = L.getD 0 Fl.zero := ⟨_, rfl⟩
  rw [← hf0]
  have HF0 := Lib.hid hf0
  clear hf0
  have h0 : 0 < L.length := by omega
  have hw0 : NWr w w base nb now sent v L := ⟨h.row, h.box, ⟨rfl, rfl, rfl, Nat.le_refl _, fun _ _ _ => rfl⟩⟩
  have mN := hw0.mN
  have mS := hw0.mS
  have HLE : Hid (Calls Try.prog 14 #[v] w fun e w' => e = .returned (.int .i64 ((n : Int) + 1)) ∧ w' = w) := Lib.hid (by
    obtain ⟨a, c, e, _⟩ := h.row.form
    rw [e, hL]
    exact len_any a (n + 1) c w)
  have HSW := Lib.hid (hw0.swap 0 n h0 (by omega))
  have HH := Lib.hid h
  have HL := Lib.hid hL
  have e1 : wrap64 (n : Int) = (n : Int) := IntWalk.wrap64_in _ (by have := h.row.1; omega)
  clear h h0 hw0 hL
  go_enter Try.func17, Try.ntmps17
  go_wp2_with fail
  refine HLE.out.mono ?_
  rintro e w1 ⟨rfl, rfl⟩
  clear mN HLE
  go_wp2_with fail
  refine HSW.out.mono ?_
  rintro e w2 ⟨rfl, hx⟩
  have HX := Lib.hid hx
  have HDN := Lib.hid (down_any hx.row hx.box n (by rw [swapL_len, HL.out]; omega) (by rw [swapL_len, HL.out]; omega) (by
    have := HH.out.heap
    rw [HL.out] at this
    exact this.down HL.out.symm))
  clear mS HSW hx
  go_wp2_with fail
  refine HDN.out.mono ?_
  rintro e w3 ⟨x, rfl, M, hp, hh, hk, hw⟩
  have hm : M.length = n + 1 := by rw [hp.length_eq, swapL_len]; exact HL.out
  obtain ⟨d1, d2⟩ := drop_perm HL.out hp (hk n (Nat.le_refl _))
  have hpo := tpop_any hw.row hw.box n hm
  rw [d2, ← HF0.out] at hpo
  have HPO := Lib.hid hpo
  have HHp := Lib.hid hh
  have HD1 := Lib.hid d1
  have HD2 := Lib.hid d2
  have HW := Lib.hid hw
  have HM := Lib.hid hm
  have mP := mPop w3 nb
  clear HDN hp hh hk hw hm d1 d2 hpo
  go_wp2_with fail
  refine HPO.out.mono ?_
  rintro e w4 ⟨rfl, v4, r4, b4, o4, f4⟩
  have R4 := Lib.hid r4
  have B4 := Lib.hid b4
  have O4 := Lib.hid o4
  have F4 := Lib.hid f4
  clear HPO mP r4 b4 o4 f4
  go_wp2_with fail
  go_ret
  have hml : (M.take n).length = n := by rw [List.length_take, HM.out]; omega
  refine ⟨rfl, v4, M.take n, HD1.out, ⟨R4.out, B4.out, ?_, HH.out.low⟩, .inl O4.out, ?_⟩
  · rw [hml]
    intro k k0 kn
    rw [getD_take kn, getD_take (by omega)]
    exact HHp.out k k0 kn
  · exact ((FrN.of_grown (nb := nb) HX.out.gr).trans (FrN.of_grown (nb := nb) HW.out.gr) (.inl rfl)).trans F4.out (.inl rfl)
end Go.Proofs.Ytfijidaohlnphaa
