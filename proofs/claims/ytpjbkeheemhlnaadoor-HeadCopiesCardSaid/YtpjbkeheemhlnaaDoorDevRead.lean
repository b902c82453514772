/- The contents of a block, New, and Read; no conditions beyond those in each statement. -/
import Derived.Test.YtpjbkeheemhlnaaDoorDevOps
namespace Go.Proofs.YtpjbkeheemhlnaaDoor
open Go.RowKit
set_option linter.unusedVariables false
set_option maxRecDepth 100000

/-- A slice of writes as the walk wants it: nil, or a row whose cells are known. -/
theorem row_of {w : World} {v : Value} {ps : List Wr} (h : w.ownsRow 0 144 2 v ps.length (wrCells ps)) :
    (v = .slice none 0 0 ∧ ps = []) ∨ ∃ g cap, v = .slice (some ⟨g, 0, none⟩) ps.length cap ∧ g < w.heap.size ∧ ps.length ≤ cap ∧ cap ≤ maxLen ∧ ∀ j p, ps[j]? = some p → w.cell? ⟨g, j * 2, none⟩ = some (.int .i64 p.place) ∧ w.cell? ⟨g, j * 2 + 1, none⟩ = some (.string p.data) := by
  rcases id h.2 with ⟨rfl, hn⟩ | ⟨g, cap, cur, rfl, _, hg, hl, hm, _, _⟩
  · exact .inl ⟨rfl, List.eq_nil_of_length_eq_zero hn⟩
  · refine .inr ⟨g, cap, rfl, lt_of_block hg, hl, hm, fun j p hp => ?_⟩
    obtain ⟨a, b⟩ := wrCells_at ps j p hp
    have ha := h.cells rfl _ _ a
    have hb := h.cells rfl _ _ b
    have hadd : ∀ j, (⟨g, 0, none⟩ : Addr).add j = ⟨g, j, none⟩ := fun j => by unfold Addr.add; split <;> simp_all
    rw [hadd] at ha hb
    exact ⟨ha, hb⟩

theorem slice_of {w : World} {base : Nat} {e : TypeId} {size : Nat} {v : Value} {n : Nat} {xs : List Value} (h : w.ownsRow base e size v n xs) : ∃ a cap, v = .slice a n cap := by
  rcases h.2 with ⟨rfl, rfl⟩ | ⟨g, cap, cur, rfl, _⟩
  · exact ⟨_, _, rfl⟩
  · exact ⟨_, _, rfl⟩

/-- What a block contains. -/
def Blk.contents (b : Blk) : ByteArray := match b.pending.getLast? with
  | some p => p.data
  | none => b.durable
/-- A block by value. -/
abbrev blkV (b : Blk) (v : Value) : Value := .agg #[.string b.durable, .bool b.spoiled, .bool b.lost, v]

theorem contents_any (b : Blk) (v : Value) (w : World) (hc : b.pending.length ≤ 4611686018427387904) (h : w.ownsRow 0 144 2 v b.pending.length (wrCells b.pending)) :
    Calls Tryd.prog 80 #[blkV b v] w fun e w' => e = .returned (.string b.contents) ∧ Below w.heap.size w w' := by
  obtain ⟨d, sp, lo, pend⟩ := b
  simp only at hc h
  by_cases hn : pend.length = 0
  · obtain rfl : pend = [] := List.eq_nil_of_length_eq_zero hn
    have e0 : (Blk.contents ⟨d, sp, lo, []⟩) = d := rfl
    rw [e0]
    rcases row_of h with ⟨rfl, _⟩ | ⟨g, cap, rfl, _, _, _, _⟩
    all_goals
      clear h e0 hn hc
      go_enter Tryd.func80, Tryd.ntmps80
      go_wp2
      go_ret
      exact ⟨rfl, (Below.refl _ _).alloc (Nat.le_refl _) _⟩
  · rcases row_of h with ⟨rfl, h0⟩ | ⟨g, cap, rfl, hg, _, _, hcell⟩
    · exact absurd (by rw [h0]; rfl) hn
    · obtain ⟨p, hp⟩ : ∃ p, pend[pend.length - 1]? = some p := ⟨_, List.getElem?_eq_getElem (by omega)⟩
      have e0 : (Blk.contents ⟨d, sp, lo, pend⟩) = p.data := by simp only [Blk.contents, List.getLast?_eq_getElem?, hp]
      rw [e0]
      have hq := (hcell _ p hp).2
      clear e0 hcell h hp
      have hpos : 0 < pend.length := by omega
      clear hn
      obtain ⟨m, hm⟩ : ∃ m, pend.length = m + 1 := ⟨pend.length - 1, by omega⟩
      rw [hm] at hc hq hpos ⊢
      rw [Nat.add_sub_cancel] at hq
      clear hm
      have h1 : decide ((0 : Int) < ((m + 1 : Nat) : Int)) = true := by simp
      go_enter Tryd.func80, Tryd.ntmps80
      go_wp2
      go_ret
      exact ⟨rfl, (Below.refl _ _).alloc (Nat.le_refl _) _⟩

/-- What Read answers. -/
def Dv.read (D : Dv) (i : Int) : ByteArray × Int :=
  if D.down then (⟨#[]⟩, 5) else match (if D.hasB i then D.bs[i.toNat]? else none) with
  | none => (⟨#[]⟩, 7)
  | some b => if b.lost then (⟨#[]⟩, 6) else (b.contents, 0)
abbrev two (x : ByteArray × Int) : Value := .tuple #[.string x.1, .int .i64 x.2]

section
variable {S : Nat → Prop} {w : World} {B : Nat} {D : Dv}
theorem Dv.has_at {i : Int} (h : D.hasB i = true) : ∃ (k : Nat) (b : Blk), i = (k : Int) ∧ k < D.bs.length ∧ D.bs[k]? = some b := by
  simp only [Dv.hasB, decide_eq_true_eq] at h
  obtain ⟨k, rfl⟩ : ∃ k : Nat, i = k := ⟨i.toNat, by omega⟩
  have hk : k < D.bs.length := by omega
  exact ⟨k, _, rfl, hk, List.getElem?_eq_getElem hk⟩
theorem read_any (i : Int) (h : DevAt S w B D) (hw : D.writes ≤ 4611686018427387904) :
    Calls Tryd.prog 51 #[.pointer (some ⟨B, 0, none⟩), .int .i64 i] w fun e w' => e = .returned (two (D.read i)) ∧ Below w.heap.size w w' := by
  by_cases hd : D.down = true
  · have e0 : D.read i = (⟨#[]⟩, 5) := by simp [Dv.read, hd]
    have hdn := down_any h
    rw [hd] at hdn
    rw [e0]
    clear hd e0
    go_enter Tryd.func51, Tryd.ntmps51
    go_wp2_with (go_at_call 59; refine hdn.mono ?_; rintro e w' ⟨rfl, rfl⟩)
    go_ret2
    exact ⟨rfl, Below.refl _ _⟩
  · have hd' : D.down = false := by simpa using hd
    have hdn := down_any h
    have hhs := has_any i h
    rw [hd'] at hdn
    clear hd
    by_cases hh : D.hasB i = true
    · obtain ⟨k, b, rfl, hk, hb⟩ := Dv.has_at hh
      obtain ⟨R, sv, C, h0⟩ := id h
      have c0 := h0.c0
      have r0 := h0.r0 hb
      have r1 := h0.r1 hb
      have r2 := h0.r2 hb
      have r3 := h0.r3 hb
      have hrow := h0.rows k b hb
      have hmany := h0.fits.many
      obtain ⟨sa, scap, hsv⟩ := slice_of hrow
      rw [hsv] at r3 hrow
      have hcnt := h0.fits.count b (List.mem_of_getElem? hb)
      rw [hh] at hhs
      by_cases hl : b.lost = true
      · have e0 : D.read (k : Int) = (⟨#[]⟩, 6) := by simp [Dv.read, hd', hh, hb, hl]
        rw [e0]
        rw [hl] at r2
        clear h0 hb hrow hh hd' e0 hl hsv
        go_enter Tryd.func51, Tryd.ntmps51
        go_wp2_with (first
          | (go_at_call 59; refine hdn.mono ?_; rintro e w' ⟨rfl, rfl⟩)
          | (go_at_call 55; refine hhs.mono ?_; rintro e w' ⟨rfl, rfl⟩))
        go_ret2
        exact ⟨rfl, (Below.refl _ _).alloc (Nat.le_refl _) _⟩
      · have hl' : b.lost = false := by simpa using hl
        have e0 : D.read (k : Int) = (b.contents, 0) := by simp [Dv.read, hd', hh, hb, hl']
        rw [e0]
        rw [hl'] at r2
        have hct : ∀ W : World, Below w.heap.size w W → Calls Tryd.prog 80 #[.agg #[.string b.durable, .bool b.spoiled, .bool false, .slice sa b.pending.length scap]] W fun e w' => e = .returned (.string b.contents) ∧ Below W.heap.size W w' := fun W hW => by
          have := contents_any b _ W (by omega) (ownsRow_same hrow (fun j e => hW.block j (by obtain ⟨cur, hc⟩ := ownsRow_block hrow e; exact lt_of_block hc)))
          rwa [blkV, hl'] at this
        have HCT := Lib.hid hct
        clear h0 hb hrow hh hd' e0 hl hl' hct hsv
        go_enter Tryd.func51, Tryd.ntmps51
        go_wp2_with (first
          | (go_at_call 59; refine hdn.mono ?_; rintro e w' ⟨rfl, rfl⟩)
          | (go_at_call 55; refine hhs.mono ?_; rintro e w' ⟨rfl, rfl⟩)
          | (go_at_call 80; refine (HCT.out _ ((Below.refl _ _).alloc (Nat.le_refl _) _)).mono ?_; rintro e w1 ⟨rfl, hb1⟩))
        go_ret2
        exact ⟨rfl, ((Below.refl _ _).alloc (Nat.le_refl _) _).trans (hb1.mono (by simp))⟩
    · have hh' : D.hasB i = false := by simpa using hh
      have e0 : D.read i = (⟨#[]⟩, 7) := by simp [Dv.read, hd', hh']
      rw [e0]
      rw [hh'] at hhs
      clear hh hh' e0 hd'
      go_enter Tryd.func51, Tryd.ntmps51
      go_wp2_with (first
        | (go_at_call 59; refine hdn.mono ?_; rintro e w' ⟨rfl, rfl⟩)
        | (go_at_call 55; refine hhs.mono ?_; rintro e w' ⟨rfl, rfl⟩))
      go_ret2
      exact ⟨rfl, Below.refl _ _⟩
end
end Go.Proofs.YtpjbkeheemhlnaaDoor
