/- The device's small methods: Size, Down, operate, has, Fall; the contents of a block. No conditions beyond those in each statement. -/
import Derived.Test.YtpjbkeheemhlnaaDoorDevMem
namespace Go.Proofs.YtpjbkeheemhlnaaDoor
open Go.RowKit
set_option linter.unusedVariables false
set_option maxRecDepth 100000

/-- Is there power for an operation? -/
def Dv.up (D : Dv) : Bool := !D.down && !(D.falling && D.turns == 0)
/-- The device behind an operation's count. -/
def Dv.op (D : Dv) : Dv := if D.down then D else if D.falling then (if D.turns = 0 then { D with down := true } else { D with turns := D.turns - 1 }) else D
/-- Is there such a block? -/
def Dv.hasB (D : Dv) (i : Int) : Bool := decide (0 ≤ i ∧ i < (D.bs.length : Int))
theorem Dv.op_bs (D : Dv) : D.op.bs = D.bs := by unfold Dv.op; split <;> (try split) <;> (try split) <;> rfl
theorem Dv.op_writes (D : Dv) : D.op.writes = D.writes := by unfold Dv.op; split <;> (try split) <;> (try split) <;> rfl
theorem Dv.op_falling (D : Dv) : D.op.falling = D.falling := by unfold Dv.op; split <;> (try split) <;> (try split) <;> rfl
theorem Dv.op_turns (D : Dv) : D.op.turns ≤ D.turns := by unfold Dv.op; split <;> (try split) <;> (try split) <;> simp
theorem Dv.Fits.same {D D' : Dv} (h : D.Fits) (hb : D'.bs = D.bs) (hw : D'.writes = D.writes) (ht : D'.turns ≤ 9223372036854775807) : D'.Fits :=
  ⟨by rw [hb]; exact h.many, by rw [hb]; exact h.durable, by rw [hb, hw]; exact h.pending, by rw [hb, hw]; exact h.count, ht⟩
theorem Dv.Fits.op {D : Dv} (h : D.Fits) : D.op.Fits := h.same D.op_bs D.op_writes (Nat.le_trans D.op_turns h.turns)

section
variable {S : Nat → Prop} {w : World} {B : Nat} {D : Dv}
theorem size_any (h : DevAt S w B D) : Calls Tryd.prog 56 #[.pointer (some ⟨B, 0, none⟩)] w fun e w' => e = .returned (.int .i64 D.bs.length) ∧ w = w' := by
  obtain ⟨R, sv, C, h⟩ := h
  have c0 := h.c0
  go_enter Tryd.func56, Tryd.ntmps56
  go_wp2
  go_ret
  exact ⟨rfl, rfl⟩
theorem down_any (h : DevAt S w B D) : Calls Tryd.prog 59 #[.pointer (some ⟨B, 0, none⟩)] w fun e w' => e = .returned (.bool D.down) ∧ w = w' := by
  obtain ⟨R, sv, C, h⟩ := h
  have c4 := h.c4
  go_enter Tryd.func59, Tryd.ntmps59
  go_wp2
  go_ret
  exact ⟨rfl, rfl⟩
theorem has_any (i : Int) (h : DevAt S w B D) : Calls Tryd.prog 55 #[.pointer (some ⟨B, 0, none⟩), .int .i64 i] w fun e w' => e = .returned (.bool (D.hasB i)) ∧ w = w' := by
  by_cases h0 : 0 ≤ i
  · have hd : decide (0 ≤ i) = true := by simpa using h0
    go_enter Tryd.func55, Tryd.ntmps55
    go_wp2_with (go_at_call 56; refine (size_any h).mono ?_; rintro e w' ⟨rfl, rfl⟩)
    go_ret
    exact ⟨by simp [Dv.hasB, h0], rfl⟩
  · have hd : decide (0 ≤ i) = false := by simpa using h0
    go_enter Tryd.func55, Tryd.ntmps55
    go_wp2
    go_ret
    exact ⟨by simp [Dv.hasB]; omega, rfl⟩

theorem DevAt.setDown (h : DevAt S w B D) : DevAt S (w.setCell ⟨B, 4, none⟩ (.bool true)) B { D with down := true } ∧ Mod S w (w.setCell ⟨B, 4, none⟩ (.bool true)) := by
  obtain ⟨R, sv, C, h⟩ := h
  exact ⟨⟨R, sv, C, h.own (block_setCell h.hB) rfl (h.fits.same rfl rfl h.fits.turns) (by simp [World.setCell]) (fun k _ hk => block_setCell_other hk)⟩, (Mod.refl S w).setCell (p := ⟨B, 4, none⟩) (.inl h.sB) _⟩
theorem DevAt.setTurns (t : Nat) (ht : t ≤ 9223372036854775807) (h : DevAt S w B D) : DevAt S (w.setCell ⟨B, 3, none⟩ (.int .i64 t)) B { D with turns := t } ∧ Mod S w (w.setCell ⟨B, 3, none⟩ (.int .i64 t)) := by
  obtain ⟨R, sv, C, h⟩ := h
  exact ⟨⟨R, sv, C, h.own (block_setCell h.hB) rfl (h.fits.same rfl rfl ht) (by simp [World.setCell]) (fun k _ hk => block_setCell_other hk)⟩, (Mod.refl S w).setCell (p := ⟨B, 3, none⟩) (.inl h.sB) _⟩
theorem DevAt.setWrites (n : Nat) (hf : Dv.Fits { D with writes := n }) (h : DevAt S w B D) : DevAt S (w.setCell ⟨B, 1, none⟩ (.int .i64 n)) B { D with writes := n } ∧ Mod S w (w.setCell ⟨B, 1, none⟩ (.int .i64 n)) := by
  obtain ⟨R, sv, C, h⟩ := h
  exact ⟨⟨R, sv, C, h.own (block_setCell h.hB) rfl hf (by simp [World.setCell]) (fun k _ hk => block_setCell_other hk)⟩, (Mod.refl S w).setCell (p := ⟨B, 1, none⟩) (.inl h.sB) _⟩
theorem DevAt.setFalling (h : DevAt S w B D) : DevAt S (w.setCell ⟨B, 2, none⟩ (.bool true)) B { D with falling := true } ∧ Mod S w (w.setCell ⟨B, 2, none⟩ (.bool true)) := by
  obtain ⟨R, sv, C, h⟩ := h
  exact ⟨⟨R, sv, C, h.own (block_setCell h.hB) rfl (h.fits.same rfl rfl h.fits.turns) (by simp [World.setCell]) (fun k _ hk => block_setCell_other hk)⟩, (Mod.refl S w).setCell (p := ⟨B, 2, none⟩) (.inl h.sB) _⟩
theorem DevAt.stay (h : DevAt S w B D) : DevAt S w B D ∧ Mod S w w := ⟨h, Mod.refl S w⟩
theorem DevAt.same {D' : Dv} (h : DevAt S w B D) (e : D = D') : DevAt S w B D' := e ▸ h

/-- 'operate()': what it answers, and the device behind it. -/
theorem operate_any (h : DevAt S w B D) : Calls Tryd.prog 93 #[.pointer (some ⟨B, 0, none⟩)] w fun e w' => e = .returned (.bool D.up) ∧ DevAt S w' B D.op ∧ Mod S w w' := by
  obtain ⟨R, sv, C, h0⟩ := id h
  have c2 := h0.c2
  have c3 := h0.c3
  have f3 := h0.fB 3
  have f4 := h0.fB 4
  have c4 := h0.c4
  have htm := h0.fits.turns
  clear h0
  by_cases hd : D.down = true
  · have e1 : D.up = false := by simp [Dv.up, hd]
    have e2 : D.op = D := by simp [Dv.op, hd]
    rw [e1, e2]
    clear e1 e2 c2 c3
    go_enter Tryd.func93, Tryd.ntmps93
    go_wp2_with (go_at_call 59; refine (down_any h).mono ?_; rintro e w' ⟨rfl, rfl⟩)
    go_ret
    exact ⟨rfl, h.stay⟩
  · have hd' : D.down = false := by simpa using hd
    clear hd
    by_cases hf : D.falling = true
    · by_cases ht : D.turns = 0
      · have e1 : D.up = false := by simp [Dv.up, hf, ht]
        have e2 : D.op = { D with down := true } := by simp [Dv.op, hd', hf, ht]
        rw [e1, e2]
        have HS := h.setDown
        rw [hf] at c2
        have c3' : w.cell? ⟨B, 3, none⟩ = some (.int .i64 0) := by rw [ht] at c3; exact c3
        clear e1 e2 ht hf c3
        go_enter Tryd.func93, Tryd.ntmps93
        go_wp2_with (go_at_call 59; refine (down_any h).mono ?_; rintro e w' ⟨rfl, rfl⟩)
        go_ret
        exact ⟨rfl, HS⟩
      · have e1 : D.up = true := by simp [Dv.up, hd', hf, ht]
        have e2 : D.op = { D with turns := D.turns - 1 } := by simp [Dv.op, hd', hf, ht]
        rw [e1, e2]
        have HS := h.setTurns (D.turns - 1) (by omega)
        rw [show ((D.turns - 1 : Nat) : Int) = (D.turns : Int) - 1 by omega] at HS
        have hb : ((D.turns : Int) == 0) = false := by simpa using ht
        rw [hf] at c2
        clear e1 e2 hf
        go_enter Tryd.func93, Tryd.ntmps93
        go_wp2_with (go_at_call 59; refine (down_any h).mono ?_; rintro e w' ⟨rfl, rfl⟩)
        go_ret
        exact ⟨rfl, HS⟩
    · have hf' : D.falling = false := by simpa using hf
      have e1 : D.up = true := by simp [Dv.up, hd', hf']
      have e2 : D.op = D := by simp [Dv.op, hd', hf']
      rw [e1, e2]
      rw [hf'] at c2
      clear e1 e2 hf hf'
      go_enter Tryd.func93, Tryd.ntmps93
      go_wp2_with (go_at_call 59; refine (down_any h).mono ?_; rintro e w' ⟨rfl, rfl⟩)
      go_ret
      exact ⟨rfl, h.stay⟩

/-- 'Fall(n)'. -/
def Dv.fall (D : Dv) (n : Int) : Dv := { D with falling := true, turns := n.toNat }
theorem fall_any (n : Int) (hn : n ≤ 9223372036854775807) (h : DevAt S w B D) : Calls Tryd.prog 20 #[.pointer (some ⟨B, 0, none⟩), .int .i64 n] w fun e w' => e = .returned (.tuple #[]) ∧ DevAt S w' B (D.fall n) ∧ Mod S w w' := by
  obtain ⟨R, sv, C, h0⟩ := id h
  have f2 := h0.fB 2
  have f3 := h0.fB 3
  have c2 := h0.c2
  have c3 := h0.c3
  clear h0
  have h1 := h.setFalling
  have h2 := h1.1.setTurns n.toNat (by omega)
  have HS : DevAt S ((w.setCell ⟨B, 2, none⟩ (.bool true)).setCell ⟨B, 3, none⟩ (.int .i64 ((n.toNat : Nat) : Int))) B (D.fall n) ∧ Mod S w ((w.setCell ⟨B, 2, none⟩ (.bool true)).setCell ⟨B, 3, none⟩ (.int .i64 ((n.toNat : Nat) : Int))) :=
    ⟨h2.1, h1.2.trans h2.2 (fun k hk => .inl hk)⟩
  clear h1 h2
  by_cases hn0 : 0 ≤ n
  · rw [show ((n.toNat : Nat) : Int) = n by omega] at HS
    go_enter Tryd.func20, Tryd.ntmps20
    go_wp2
    go_end0
    exact ⟨rfl, HS⟩
  · rw [show ((n.toNat : Nat) : Int) = 0 by omega] at HS
    go_enter Tryd.func20, Tryd.ntmps20
    go_wp2
    go_end0
    exact ⟨rfl, HS⟩
end
end Go.Proofs.YtpjbkeheemhlnaaDoor
