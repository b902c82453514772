/- Flip and Lose; no conditions beyond those in each statement. -/
import Derived.Test.YtiknfifiglooeaaDoorDevFate
import Derived.Lib.ConvBytes
import Derived.Laws.IdiomStrings
import Derived.Laws.BitsAllLaws
namespace Go.Proofs.YtiknfifiglooeaaDoor
open Go.RowKit
set_option linter.unusedVariables false
set_option maxRecDepth 100000

theorem empty_true {s : ByteArray} (h : s.size = 0) : s.toList.isEmpty = true := by
  rw [List.isEmpty_iff, ByteArray.toList_eq]
  rw [Lib.size_eq] at h
  exact List.eq_nil_of_length_eq_zero h
/-- The index of a flip. -/
def flipIx (n : Int) (m : Nat) : Nat := (n % 18446744073709551616).toNat % m
def flipS (s : ByteArray) (n : Int) (bits : Nat) : ByteArray := ⟨(s.data.toList.set (flipIx n s.size) (s.data.toList.getD (flipIx n s.size) 0 ^^^ UInt8.ofNat bits)).toArray⟩
theorem flipS_size (s : ByteArray) (n : Int) (bits : Nat) : (flipS s n bits).size = s.size := by
  show ((s.data.toList.set _ _).toArray).size = s.data.size
  simp
def Blk.flip (b : Blk) (n : Int) (bits : Nat) : Blk := if bits = 0 ∨ b.durable.size = 0 ∨ b.spoiled = true then b else ⟨flipS b.durable n bits, true, b.lost, b.pending⟩
def Blk.lose (b : Blk) : Blk := ⟨b.durable, b.spoiled, true, b.pending⟩
def Dv.onB (D : Dv) (i : Int) (f : Blk → Blk) : Dv := match (if D.hasB i then D.bs[i.toNat]? else none) with
  | none => D
  | some b => { D with bs := D.bs.set i.toNat (f b) }

theorem und_u8' : Tryd.prog.underlying 5 = some (.int .u8) := by kernel_rfl
theorem und_string' : Tryd.prog.underlying 9 = some .string := by kernel_rfl
/-- '[]byte(s)': a new row of the bytes. -/
theorem conv_bytes (W : World) (s : ByteArray) : ∃ W1 cap C n, (convert 9 100 (.string s)).run Tryd.prog W = .ok (.slice (some ⟨W.heap.size, 0, none⟩) s.size cap) W1 ∧ Below W.heap.size W W1 ∧ W1.heap.size = W.heap.size + 1 ∧
    W1.heap[W.heap.size]? = some (.cells C 5 (n, n + 1)) ∧ C.size = n ∧ s.size ≤ n ∧ ∀ j, j < s.size → C[j]? = some (.int .u8 ((s.data.toList.getD j 0).toNat : Int)) := by
  refine ⟨_, _, _, _, Lib.run_convert_string_bytes (P := Tryd.prog) W 9 100 5 s und_string' und_bytes und_u8', ?_, Lib.bytesWorld_size W _ s, Lib.bytesWorld_at_new W _ s, rfl, ?_, ?_⟩
  · exact ⟨rfl, rfl, rfl, by rw [Lib.bytesWorld_size]; omega, fun k hk => Lib.bytesWorld_at_old W _ s k hk⟩
  · simp [Lib.bytesCells]
  · intro j hj
    have hj' : j < s.data.size := hj
    simp [Lib.bytesCells, Array.getElem?_append, hj, List.getD_eq_getElem?_getD]

section
variable {S : Nat → Prop} {w x : World} {B R : Nat} {sv : Nat → Value} {C : Array Value} {D : Dv}
theorem lost_put (k : Nat) (b : Blk) (h : DevIn S w B R sv C D) (hb : D.bs[k]? = some b) :
    DevAt S (w.setCell ⟨R, k * 4 + 2, none⟩ (.bool true)) B { D with bs := D.bs.set k b.lose } ∧ Mod S w (w.setCell ⟨R, k * 4 + 2, none⟩ (.bool true)) := by
  have hkl := (List.getElem?_eq_some_iff.1 hb).1
  obtain ⟨c0, c1, c2, c3⟩ := h.cells k b hb
  have hBR := h.BR
  have hm := List.mem_of_getElem? hb
  have h1 := h.put (x := w.setCell ⟨R, k * 4 + 2, none⟩ (.bool true)) (D' := { D with bs := D.bs.set k b.lose }) (b' := b.lose) (v' := sv k) hb rfl
    (by rw [block_setCell_other hBR, h.hB]; simp [devCells])
    (block_setCell h.hR) (by simp)
    (fun j hj => by rw [row_cell (w := w) (b := 0) (by omega)])
    (by rw [row_cell (w := w) (b := 0) (by omega)]; exact c0)
    (by rw [row_cell (w := w) (b := 0) (by omega)]; exact c1)
    (row_cell_same c2)
    (by rw [row_cell (w := w) (b := 0) (by omega)]; exact c3)
    (ownsRow_same (h.rows k b hb) (fun j e => block_setCell_other (fun e' => h.notR hkl (by rw [← e']; exact e)))) (fun j e => .inl e) (h.nils k b hb) (by simp [World.setCell])
    (fun j _ hB hR _ => by rw [block_setCell_other hR])
    (h.fits.set hb (h.fits.durable b hm) (h.fits.pending b hm) (h.fits.count b hm))
  have hS : (fun j => S j ∨ (sv k).ownBlock = some j) = S := by
    funext j
    simp only [eq_iff_iff]
    exact ⟨fun e => e.elim id (fun e => h.sP k j hkl e), .inl⟩
  rw [hS] at h1
  exact ⟨⟨_, _, _, h1⟩, (Mod.refl S w).setCell (p := ⟨R, k * 4 + 2, none⟩) (.inl h.sR) _⟩
theorem onB_at {i : Int} {f : Blk → Blk} {k : Nat} {b : Blk} (hi : i = (k : Int)) (hb : D.bs[k]? = some b) : D.onB i f = { D with bs := D.bs.set k (f b) } := by
  subst hi
  have hk := (List.getElem?_eq_some_iff.1 hb).1
  have hh : D.hasB (k : Int) = true := by simp [Dv.hasB]; omega
  simp [Dv.onB, hh, hb]
theorem onB_none {i : Int} {f : Blk → Blk} (h : D.hasB i = false) : D.onB i f = D := by simp [Dv.onB, h]

theorem lose_any (i : Int) (h : DevAt S w B D) : Calls Tryd.prog 40 #[.pointer (some ⟨B, 0, none⟩), .int .i64 i] w fun e w' => e = .returned (.tuple #[]) ∧ DevAt S w' B (D.onB i Blk.lose) ∧ Mod S w w' := by
  have hhs := has_any i h
  by_cases hh : D.hasB i = true
  · obtain ⟨k, b, rfl, hk, hb⟩ := Dv.has_at hh
    rw [onB_at rfl hb]
    obtain ⟨R, sv, C, h0⟩ := id h
    have c0 := h0.c0
    have r2 := h0.r2 hb
    have f2 := h0.fR (k * 4 + 2)
    have hmany := h0.fits.many
    have HP := lost_put k b h0 hb
    rw [hh] at hhs
    clear h0 hb hh h
    go_enter Tryd.func40, Tryd.ntmps40
    go_wp2_with (go_at_call 83; refine hhs.mono ?_; rintro e w' ⟨rfl, rfl⟩)
    go_end0
    exact ⟨rfl, HP⟩
  · have hh' : D.hasB i = false := by simpa using hh
    rw [onB_none hh']
    rw [hh'] at hhs
    clear hh hh'
    go_enter Tryd.func40, Tryd.ntmps40
    go_wp2_with (go_at_call 83; refine hhs.mono ?_; rintro e w' ⟨rfl, rfl⟩)
    go_end0
    exact ⟨rfl, h.stay⟩

theorem flip_put (k : Nat) (b : Blk) (s : ByteArray) (h : DevIn S w B R sv C D) (hb : D.bs[k]? = some b) (hs : s.size ≤ 512) :
    DevAt S ((w.setCell ⟨R, k * 4, none⟩ (.string s)).setCell ⟨R, k * 4 + 1, none⟩ (.bool true)) B { D with bs := D.bs.set k ⟨s, true, b.lost, b.pending⟩ } ∧ Mod S w ((w.setCell ⟨R, k * 4, none⟩ (.string s)).setCell ⟨R, k * 4 + 1, none⟩ (.bool true)) := by
  have hkl := (List.getElem?_eq_some_iff.1 hb).1
  obtain ⟨c0, c1, c2, c3⟩ := h.cells k b hb
  have hBR := h.BR
  have hm := List.mem_of_getElem? hb
  have h1 := h.put (x := (w.setCell ⟨R, k * 4, none⟩ (.string s)).setCell ⟨R, k * 4 + 1, none⟩ (.bool true)) (D' := { D with bs := D.bs.set k ⟨s, true, b.lost, b.pending⟩ }) (b' := ⟨s, true, b.lost, b.pending⟩) (v' := sv k) hb rfl
    (by rw [block_setCell_other hBR, block_setCell_other hBR, h.hB]; simp [devCells])
    (block_setCell (block_setCell h.hR)) (by simp)
    (fun j hj => by rw [row_cell (w := w) (b := 0) (by omega), row_cell (w := w) (b := 0) (by omega)])
    (by rw [row_cell (w := w) (b := 0) (by omega)]; exact row_cell_same c0)
    (row_cell_same (by rw [row_cell (w := w) (b := 0) (by omega)]; exact c1))
    (by rw [row_cell (w := w) (b := 0) (by omega), row_cell (w := w) (b := 0) (by omega)]; exact c2)
    (by rw [row_cell (w := w) (b := 0) (by omega), row_cell (w := w) (b := 0) (by omega)]; exact c3)
    (ownsRow_same (h.rows k b hb) (fun j e => by
      have hjR : j ≠ R := fun e' => h.notR hkl (by rw [← e']; exact e)
      rw [block_setCell_other hjR, block_setCell_other hjR])) (fun j e => .inl e) (h.nils k b hb) (by simp [World.setCell])
    (fun j _ hB hR _ => by rw [block_setCell_other hR, block_setCell_other hR])
    (h.fits.set hb hs (h.fits.pending b hm) (h.fits.count b hm))
  have hS : (fun j => S j ∨ (sv k).ownBlock = some j) = S := by
    funext j
    simp only [eq_iff_iff]
    exact ⟨fun e => e.elim id (fun e => h.sP k j hkl e), .inl⟩
  rw [hS] at h1
  exact ⟨⟨_, _, _, h1⟩, ((Mod.refl S w).setCell (p := ⟨R, k * 4, none⟩) (.inl h.sR) _).setCell (p := ⟨R, k * 4 + 1, none⟩) (.inl h.sR) _⟩

/-- Back from the row whose one byte has turned. -/
theorem conv_back (W : World) (g ix cap m : Nat) (C1 : Array Value) (s : ByteArray) (q : Nat) (hrow : W.heap[g]? = some (.cells C1 5 (m, m + 1))) (hm : C1.size = m) (hle : s.size ≤ m) (hix : ix < s.size) (hq : q < 256) (hcell : ∀ j, j < s.size → C1[j]? = some (.int .u8 ((s.data.toList.getD j 0).toNat : Int))) :
    (convert 100 9 (.slice (some ⟨g, 0, none⟩) s.size cap)).run Tryd.prog (W.setCell ⟨g, ix, none⟩ (.int .u8 (q : Int))) = .ok (.string ⟨(s.data.toList.set ix (UInt8.ofNat q)).toArray⟩) (W.setCell ⟨g, ix, none⟩ (.int .u8 (q : Int))) := by
  have hl : (s.data.toList.set ix (UInt8.ofNat q)).length = s.size := by simp
  have h := run_convert_bytes_back (P := Tryd.prog) (W.setCell ⟨g, ix, none⟩ (.int .u8 (q : Int))) 100 9 5 ⟨g, 0, none⟩ cap (s.data.toList.set ix (UInt8.ofNat q)) und_bytes und_u8' und_string' (fun j hj => by
    have hadd : ∀ j, (⟨g, 0, none⟩ : Addr).add j = ⟨g, j, none⟩ := fun j => by unfold Addr.add; split <;> simp_all
    rw [hadd, cell_of_row _ g j _ 5 (m, m + 1) (block_setCell hrow)]
    have hj' : j < s.size := by rw [← hl]; exact hj
    by_cases e : j = ix
    · subst e
      rw [row_cell_same (hcell j hj'), List.getElem_set_self]
      simp
      omega
    · rw [row_cell (w := W) (b := 0) e, hcell j hj', List.getElem_set_ne (by omega)]
      have hd : j < s.data.toList.length := by simpa using hj'
      rw [List.getD_eq_getElem?_getD, List.getElem?_eq_getElem hd]
      rfl)
  rw [hl] at h
  exact h

set_option maxRecDepth 100000 in
set_option maxHeartbeats 2000000 in
theorem flip_hit (k : Nat) (n : Int) (bt : Nat) (b : Blk) (hn : -9223372036854775808 ≤ n ∧ n ≤ 9223372036854775807) (hbt : bt < 256) (h : DevAt S w B D) (hb : D.bs[k]? = some b) (h0 : bt ≠ 0) (h1 : b.durable.size ≠ 0) (h2 : b.spoiled = false) :
    Calls Tryd.prog 41 #[.pointer (some ⟨B, 0, none⟩), .int .i64 k, .int .i64 n, .int .u8 bt] w fun e w' => e = .returned (.tuple #[]) ∧ DevAt S w' B { D with bs := D.bs.set k ⟨flipS b.durable n bt, true, b.lost, b.pending⟩ } ∧ Mod S w w' := by
  have hhs := has_any (k : Int) h
  have hk := (List.getElem?_eq_some_iff.1 hb).1
  have hh : D.hasB (k : Int) = true := by simp [Dv.hasB]; omega
  rw [hh] at hhs
  obtain ⟨R, sv, C, h0'⟩ := id h
  have c0 := h0'.c0
  have r0 := h0'.r0 hb
  have r1 := h0'.r1 hb
  rw [h2] at r1
  have hmany := h0'.fits.many
  have hsz := h0'.fits.durable b (List.mem_of_getElem? hb)
  have hlt := h0'.lt R h0'.sR
  obtain ⟨W1, cap, C1, m1, hconv, hb1, hs1, hrow1, hm1, hle1, hcell1⟩ := conv_bytes w b.durable
  have hpos : 0 < b.durable.size := Nat.pos_of_ne_zero h1
  obtain ⟨ix, hixe⟩ : ∃ ix, ix = flipIx n b.durable.size := ⟨_, rfl⟩
  have hixl : ix < b.durable.size := by rw [hixe]; exact Nat.mod_lt _ hpos
  have hix : (IntKind.u64.wrap n).tmod (b.durable.size : Int) = (ix : Int) := by
    rw [hixe, flipIx, show IntKind.u64.wrap n = n % 18446744073709551616 from rfl, Int.tmod_eq_emod_of_nonneg (by omega), Int.natCast_emod, Int.toNat_of_nonneg (by omega)]
  obtain ⟨q, hqe⟩ : ∃ q, q = (b.durable.data.toList.getD ix 0).toNat := ⟨_, rfl⟩
  have hq : q < 256 := by rw [hqe]; exact UInt8.toNat_lt _
  have hqx : q ^^^ bt < 256 := Nat.xor_lt_two_pow (n := 8) hq hbt
  have hcx : W1.cell? ⟨w.heap.size, ix, none⟩ = some (.int .u8 (q : Int)) := by
    rw [cell_of_row _ _ _ _ _ _ hrow1, hcell1 ix hixl, hqe]
  have hfx : W1.frozen? ⟨w.heap.size, ix, none⟩ = false := by
    simp [World.frozen?, hrow1]
    omega
  have hxor : bits .xor .u8 (q : Int) (bt : Int) = ((q ^^^ bt : Nat) : Int) := u8_xor_nat q bt hq hbt
  have hback := conv_back W1 w.heap.size ix cap m1 C1 b.durable (q ^^^ bt) hrow1 hm1 hle1 hixl hqx hcell1
  have hres : (⟨(b.durable.data.toList.set ix (UInt8.ofNat (q ^^^ bt))).toArray⟩ : ByteArray) = flipS b.durable n bt := by
    rw [flipS, ← hixe]
    congr 3
    rw [hqe]
    apply UInt8.toNat.inj
    rw [UInt8.toNat_xor, UInt8.toNat_ofNat', UInt8.toNat_ofNat', Nat.mod_eq_of_lt hbt, Nat.mod_eq_of_lt (by rw [hqe] at hqx; exact hqx)]
  rw [hres] at hback
  have hW2 : Below w.heap.size w (W1.setCell ⟨w.heap.size, ix, none⟩ (.int .u8 ((q ^^^ bt : Nat) : Int))) := hb1.setCell (p := ⟨w.heap.size, ix, none⟩) (Nat.le_refl _) _
  have HP := Lib.hid (flip_put k b (flipS b.durable n bt) (h0'.keep hW2.size (fun j hj => hW2.block j (h0'.lt j hj))) hb (by rw [flipS_size]; exact hsz))
  have HM := Lib.hid (Mod.of_below hW2 S)
  have d0 := (hW2.cell (p := ⟨R, k * 4, none⟩) hlt).trans r0
  have d1 := (hW2.cell (p := ⟨R, k * 4 + 1, none⟩) hlt).trans r1
  have g0 := (hW2.frozen (p := ⟨R, k * 4, none⟩) hlt).trans (h0'.fR (k * 4))
  have g1 := (hW2.frozen (p := ⟨R, k * 4 + 1, none⟩) hlt).trans (h0'.fR (k * 4 + 1))
  have hRne : R ≠ w.heap.size := by omega
  have z0 := (hb1.cell (p := ⟨R, k * 4, none⟩) hlt).trans r0
  have z1 := (hb1.cell (p := ⟨R, k * 4 + 1, none⟩) hlt).trans r1
  have y0 := (hb1.frozen (p := ⟨R, k * 4, none⟩) hlt).trans (h0'.fR (k * 4))
  have y1 := (hb1.frozen (p := ⟨R, k * 4 + 1, none⟩) hlt).trans (h0'.fR (k * 4 + 1))
  have e1 : (((bt : Int)) == 0) = false := by simpa using h0
  have e2 := empty_false h1
  clear hres hcell1 hrow1 hm1 hle1 hqe hixe hW2 h0' hb h hh h0 h1 h2 hb1 hs1
  go_enter Tryd.func41, Tryd.ntmps41
  go_wp2_with (go_at_call 83; refine hhs.mono ?_; rintro e w' ⟨rfl, rfl⟩)
  go_end0
  exact ⟨rfl, HP.out.1, HM.out.trans HP.out.2 (fun j hj => .inl hj)⟩

set_option maxHeartbeats 1000000 in
theorem flip_any (i n : Int) (bt : Nat) (hn : -9223372036854775808 ≤ n ∧ n ≤ 9223372036854775807) (hbt : bt < 256) (h : DevAt S w B D) :
    Calls Tryd.prog 41 #[.pointer (some ⟨B, 0, none⟩), .int .i64 i, .int .i64 n, .int .u8 bt] w fun e w' => e = .returned (.tuple #[]) ∧ DevAt S w' B (D.onB i fun b => b.flip n bt) ∧ Mod S w w' := by
  have hhs := has_any i h
  by_cases hh : D.hasB i = true
  · obtain ⟨k, b, rfl, hk, hb⟩ := Dv.has_at hh
    rw [onB_at rfl hb]
    rw [hh] at hhs
    by_cases h0 : bt = 0
    · have e0 : b.flip n bt = b := by simp [Blk.flip, h0]
      rw [e0, set_self _ _ _ hb]
      subst h0
      clear e0 hh hb hbt
      go_enter Tryd.func41, Tryd.ntmps41
      go_wp2_with (go_at_call 83; refine hhs.mono ?_; rintro e w' ⟨rfl, rfl⟩)
      refine bodyPost_ret (results_none rfl _ _ _) rfl ?_
      exact ⟨rfl, h.stay⟩
    · by_cases h1 : b.durable.size = 0 ∨ b.spoiled = true
      · have e0 : b.flip n bt = b := by unfold Blk.flip; rw [if_pos (.inr h1)]
        rw [e0, set_self _ _ _ hb]
        have e1 : (((bt : Int)) == 0) = false := by simpa using h0
        obtain ⟨R, sv, C, h0'⟩ := id h
        have c0 := h0'.c0
        have r0 := h0'.r0 hb
        have r1 := h0'.r1 hb
        have hmany := h0'.fits.many
        clear e0 hh h0' hb h0
        by_cases hs : b.durable.size = 0
        · have e2 := empty_true hs
          clear h1 hs
          go_enter Tryd.func41, Tryd.ntmps41
          go_wp2_with (go_at_call 83; refine hhs.mono ?_; rintro e w' ⟨rfl, rfl⟩)
          refine bodyPost_ret (results_none rfl _ _ _) rfl ?_
          exact ⟨rfl, h.stay⟩
        · have e2 := empty_false hs
          have e3 : b.spoiled = true := h1.resolve_left hs
          rw [e3] at r1
          clear h1 hs e3
          go_enter Tryd.func41, Tryd.ntmps41
          go_wp2_with (go_at_call 83; refine hhs.mono ?_; rintro e w' ⟨rfl, rfl⟩)
          refine bodyPost_ret (results_none rfl _ _ _) rfl ?_
          exact ⟨rfl, h.stay⟩
      · have h2 : b.durable.size ≠ 0 := fun e => h1 (.inl e)
        have h3 : b.spoiled = false := by simpa using fun e => h1 (.inr e)
        have e0 : b.flip n bt = ⟨flipS b.durable n bt, true, b.lost, b.pending⟩ := by unfold Blk.flip; rw [if_neg (by rintro (e | e | e); exact h0 e; exact h2 e; rw [h3] at e; cases e)]
        rw [e0]
        exact flip_hit k n bt b hn hbt h hb h0 h2 h3
  · have hh' : D.hasB i = false := by simpa using hh
    rw [onB_none hh']
    rw [hh'] at hhs
    clear hh hh'
    go_enter Tryd.func41, Tryd.ntmps41
    go_wp2_with (go_at_call 83; refine hhs.mono ?_; rintro e w' ⟨rfl, rfl⟩)
    refine bodyPost_ret (results_none rfl _ _ _) rfl ?_
    exact ⟨rfl, h.stay⟩
end
end Go.Proofs.YtiknfifiglooeaaDoor
