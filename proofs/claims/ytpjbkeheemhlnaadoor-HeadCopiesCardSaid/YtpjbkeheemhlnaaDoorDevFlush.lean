/- Flush: everything that was written becomes durable; no conditions beyond those in each statement. -/
import Derived.Test.YtpjbkeheemhlnaaDoorDevNew
namespace Go.Proofs.YtpjbkeheemhlnaaDoor
open Go.RowKit
set_option linter.unusedVariables false
set_option maxRecDepth 100000

def Blk.flush (b : Blk) : Blk := if b.pending.length = 0 then b else ⟨b.contents, false, b.lost, []⟩

section
variable {S : Nat → Prop} {w x : World} {B R : Nat} {sv : Nat → Value} {C : Array Value} {D : Dv}
theorem Dv.Fits.set {D : Dv} {i : Nat} {b b' : Blk} (h : D.Fits) (hi : D.bs[i]? = some b) (hd : b'.durable.size ≤ 512) (hp : ∀ p ∈ b'.pending, p.data.size ≤ 512 ∧ p.place < D.writes) (hc : b'.pending.length ≤ D.writes) : Dv.Fits { D with bs := D.bs.set i b' } :=
  ⟨by simpa using h.many, fun d hd' => (List.mem_or_eq_of_mem_set hd').elim (h.durable d) (fun e => e ▸ hd), fun d hd' => (List.mem_or_eq_of_mem_set hd').elim (h.pending d) (fun e => e ▸ hp),
    fun d hd' => (List.mem_or_eq_of_mem_set hd').elim (h.count d) (fun e => e ▸ hc), h.turns⟩
theorem contents_size (hf : D.Fits) {b : Blk} (hb : b ∈ D.bs) : b.contents.size ≤ 512 := by
  unfold Blk.contents
  split
  · rename_i p hp
    exact (hf.pending b hb p (List.mem_of_getLast? hp)).1
  · exact hf.durable b hb
theorem row_cell {w : World} {b i j : Nat} {vs : Array Value} {u : Value} (hne : j ≠ i) : (vs.setIfInBounds i u)[j]? = vs[j]? := by
  rw [Array.getElem?_setIfInBounds_ne (by omega)]
theorem row_cell_same {i : Nat} {vs : Array Value} {u v : Value} (h : vs[i]? = some v) : (vs.setIfInBounds i u)[i]? = some u := by
  have := (Array.getElem?_eq_some_iff.1 h).1
  simp [this]

theorem flush_put (k : Nat) (b : Blk) (s : ByteArray) (h : DevIn S w B R sv C D) (hb : D.bs[k]? = some b) (hs : s.size ≤ 512) :
    DevAt S (((w.setCell ⟨R, k * 4, none⟩ (.string s)).setCell ⟨R, k * 4 + 1, none⟩ (.bool false)).setCell ⟨R, k * 4 + 3, none⟩ (.slice none 0 0)) B { D with bs := D.bs.set k ⟨s, false, b.lost, []⟩ } ∧
    Mod S w (((w.setCell ⟨R, k * 4, none⟩ (.string s)).setCell ⟨R, k * 4 + 1, none⟩ (.bool false)).setCell ⟨R, k * 4 + 3, none⟩ (.slice none 0 0)) := by
  have hkl := (List.getElem?_eq_some_iff.1 hb).1
  obtain ⟨c0, c1, c2, c3⟩ := h.cells k b hb
  have hBR := h.BR
  have h1 := h.put (x := ((w.setCell ⟨R, k * 4, none⟩ (.string s)).setCell ⟨R, k * 4 + 1, none⟩ (.bool false)).setCell ⟨R, k * 4 + 3, none⟩ (.slice none 0 0)) (D' := { D with bs := D.bs.set k ⟨s, false, b.lost, []⟩ }) (b' := ⟨s, false, b.lost, []⟩) (v' := .slice none 0 0) hb rfl
    (by rw [block_setCell_other hBR, block_setCell_other hBR, block_setCell_other hBR, h.hB]; simp [devCells])
    (block_setCell (block_setCell (block_setCell h.hR))) (by simp)
    (fun j hj => by rw [row_cell (w := w) (b := 0) (by omega), row_cell (w := w) (b := 0) (by omega), row_cell (w := w) (b := 0) (by omega)])
    (by rw [row_cell (w := w) (b := 0) (by omega), row_cell (w := w) (b := 0) (by omega)]; exact row_cell_same c0)
    (by rw [row_cell (w := w) (b := 0) (by omega)]; exact row_cell_same (by rw [row_cell (w := w) (b := 0) (by omega)]; exact c1))
    (by rw [row_cell (w := w) (b := 0) (by omega), row_cell (w := w) (b := 0) (by omega), row_cell (w := w) (b := 0) (by omega)]; exact c2)
    (row_cell_same (by rw [row_cell (w := w) (b := 0) (by omega), row_cell (w := w) (b := 0) (by omega)]; exact c3))
    (World.ownsRow_nil _ _ _ _) (fun j e => by simp [Value.ownBlock] at e) (by simp [World.setCell])
    (fun j _ hB hR _ => by rw [block_setCell_other hR, block_setCell_other hR, block_setCell_other hR])
    (h.fits.set hb hs (fun p hp => by cases hp) (Nat.zero_le _))
  have hS : (fun k => S k ∨ (Value.slice none 0 0).ownBlock = some k) = S := by funext j; simp [Value.ownBlock]
  rw [hS] at h1
  exact ⟨⟨_, _, _, h1⟩, (((Mod.refl S w).setCell (p := ⟨R, k * 4, none⟩) (.inl h.sR) _).setCell (p := ⟨R, k * 4 + 1, none⟩) (.inl h.sR) _).setCell (p := ⟨R, k * 4 + 3, none⟩) (.inl h.sR) _⟩

theorem set_self {α : Type} (l : List α) (k : Nat) (b : α) (h : l[k]? = some b) : l.set k b = l := by
  obtain ⟨hlt, he⟩ := List.getElem?_eq_some_iff.1 h
  subst he
  exact List.set_getElem_self hlt

set_option maxHeartbeats 400000 in
theorem blkflush_any (k : Nat) (b : Blk) (h : DevIn S w B R sv C D) (hb : D.bs[k]? = some b) (hw : D.writes ≤ 4611686018427387904) :
    Calls Tryd.prog 94 #[.pointer (some ⟨R, k * 4, none⟩)] w fun e w' => e = .returned (.tuple #[]) ∧ DevAt S w' B { D with bs := D.bs.set k b.flush } ∧ Mod S w w' := by
  have r0 := h.r0 hb
  have r1 := h.r1 hb
  have r2 := h.r2 hb
  have r3 := h.r3 hb
  have hrow := h.rows k b hb
  have hcnt := h.fits.count b (List.mem_of_getElem? hb)
  obtain ⟨sa, scap, hsv⟩ := slice_of hrow
  by_cases hn : b.pending.length = 0
  · have e0 : b.flush = b := by simp [Blk.flush, hn]
    rw [e0, set_self _ _ _ hb]
    rw [hsv, hn] at r3
    clear hrow hsv hn e0
    go_enter Tryd.func94, Tryd.ntmps94
    go_wp2
    go_end0
    exact ⟨rfl, ⟨_, _, _, h⟩, Mod.refl S w⟩
  · have e0 : b.flush = ⟨b.contents, false, b.lost, []⟩ := by simp [Blk.flush, hn]
    rw [e0]
    have hct := contents_any b (sv k) w (by omega) hrow
    have hput := fun (W : World) (hW : Below w.heap.size w W) => flush_put (w := W) k b b.contents (h.keep hW.size (fun j hj => hW.block j (h.lt j hj))) hb (contents_size h.fits (List.mem_of_getElem? hb))
    have hfr := h.fR
    have hlt := h.lt R h.sR
    rw [hsv] at r3 hct
    have HP := Lib.hid hput
    have HF := Lib.hid hfr
    clear hrow hsv e0 hput hfr
    obtain ⟨m, hm⟩ : ∃ m, b.pending.length = m + 1 := ⟨b.pending.length - 1, by omega⟩
    rw [hm] at r3 hct hcnt
    clear hn hm
    have h1 : decide ((0 : Int) < ((m + 1 : Nat) : Int)) = true := by simp
    go_enter Tryd.func94, Tryd.ntmps94
    go_wp2_with fail
    refine hct.mono ?_
    rintro e w1 ⟨rfl, hb1⟩
    obtain ⟨HS, HM⟩ := HP.out w1 hb1
    have q0 := (hb1.cell (p := ⟨R, k * 4, none⟩) hlt).trans r0
    have q1 := (hb1.cell (p := ⟨R, k * 4 + 1, none⟩) hlt).trans r1
    have q3 := (hb1.cell (p := ⟨R, k * 4 + 3, none⟩) hlt).trans r3
    have g0 := (hb1.frozen (p := ⟨R, k * 4, none⟩) hlt).trans (HF.out _)
    have g1 := (hb1.frozen (p := ⟨R, k * 4 + 1, none⟩) hlt).trans (HF.out _)
    have g3 := (hb1.frozen (p := ⟨R, k * 4 + 3, none⟩) hlt).trans (HF.out _)
    clear r0 r1 r2 r3
    go_wp2
    go_end0
    exact ⟨rfl, HS, (Mod.of_below hb1 S).trans HM (fun j hj => .inl hj)⟩

/-- The device behind a Flush that has power. -/
def Dv.flushed (D : Dv) : Dv := { D with bs := D.bs.map Blk.flush, writes := 0 }
/-- .. when the first i blocks are through. -/
def Dv.part (D : Dv) (i : Nat) : Dv := { D with bs := (D.bs.take i).map Blk.flush ++ D.bs.drop i }
theorem part_zero (D : Dv) : D.part 0 = D := by simp [Dv.part]
theorem part_len (D : Dv) (i : Nat) : (D.part i).bs.length = D.bs.length := by simp [Dv.part]; omega
theorem part_at (D : Dv) (i : Nat) (hi : i < D.bs.length) : (D.part i).bs[i]? = D.bs[i]? := by
  simp only [Dv.part]
  rw [List.getElem?_append_right (by simp; omega)]
  simp [show min i D.bs.length = i by omega]
theorem part_succ (D : Dv) (i : Nat) (b : Blk) (hb : D.bs[i]? = some b) : { D.part i with bs := (D.part i).bs.set i b.flush } = D.part (i + 1) := by
  have hi := (List.getElem?_eq_some_iff.1 hb).1
  have he : D.bs[i] = b := (List.getElem?_eq_some_iff.1 hb).2
  simp only [Dv.part]
  congr 1
  rw [List.set_append_right _ _ (by simp; omega)]
  simp only [List.length_map, List.length_take, show min i D.bs.length = i by omega, Nat.sub_self]
  rw [List.drop_eq_getElem_cons hi, List.set_cons_zero, List.take_succ_eq_append_getElem hi, he]
  simp
theorem flush_pending (b : Blk) : b.flush.pending = [] := by
  unfold Blk.flush
  split
  · exact List.eq_nil_of_length_eq_zero (by assumption)
  · rfl
theorem flushed_fits {D : Dv} (h : D.Fits) : D.flushed.Fits := by
  refine ⟨by simpa [Dv.flushed] using h.many, fun b hb => ?_, fun b hb p hp => ?_, fun b hb => ?_, h.turns⟩
  all_goals
    simp only [Dv.flushed, List.mem_map] at hb
    obtain ⟨d, hd, rfl⟩ := hb
  · unfold Blk.flush
    split
    · exact h.durable d hd
    · exact contents_size h hd
  · rw [flush_pending] at hp; cases hp
  · rw [flush_pending]; exact Nat.zero_le _
/-- What Flush answers, and the device behind it. -/
def Dv.flush (D : Dv) : Int × Dv := if D.up then (0, D.op.flushed) else (5, D.op)

set_option maxHeartbeats 400000 in
theorem flush_any (h : DevAt S w B D) (hw : D.writes ≤ 4611686018427387904) :
    Calls Tryd.prog 79 #[.pointer (some ⟨B, 0, none⟩)] w fun e w' => e = .returned (.int .i64 D.flush.1) ∧ DevAt S w' B D.flush.2 ∧ Mod S w w' := by
  have hop := operate_any h
  have hwo : D.op.writes ≤ 4611686018427387904 := by rw [D.op_writes]; exact hw
  by_cases hu : D.up = true
  · have e0 : D.flush = (0, D.op.flushed) := by simp [Dv.flush, hu]
    rw [e0]
    rw [hu] at hop
    clear e0 hu hw
    generalize D.op = E at *
    go_enter Tryd.func79, Tryd.ntmps79
    go_wp2_with fail
    refine hop.mono ?_
    rintro e w1 ⟨rfl, hd1, hm1⟩
    clear hop
    obtain ⟨R1, sv1, C1, k1⟩ := id hd1
    have c0 := k1.c0
    have hmany := k1.fits.many
    clear k1
    go_wp2_with fail
    go_loopw [12] (fun i wr => ∃ k : Nat, k ≤ E.bs.length ∧ i = .int .i64 k ∧ DevAt S wr B (E.part k) ∧ Mod S w wr) (fun i _ => E.bs.length - (intOf i).toNat)
    case atStart => exact ⟨0, Nat.zero_le _, rfl, by rw [part_zero]; exact hd1, hm1⟩
    case round =>
      obtain ⟨k, hk, rfl, hdk, hmk⟩ := hrel
      clear hd1 hm1 c0
      by_cases hlt : k < E.bs.length
      · obtain ⟨b, hb⟩ : ∃ b, E.bs[k]? = some b := ⟨_, List.getElem?_eq_getElem hlt⟩
        have hb' : (E.part k).bs[k]? = some b := (part_at E k hlt).trans hb
        obtain ⟨R2, sv2, C2, k2⟩ := hdk
        have c0 := k2.c0
        rw [part_len] at c0
        have hfl := blkflush_any k b k2 hb' hwo
        have HE := Lib.hid (part_succ E k b hb)
        clear hb hb' k2
        go_wp2_with (go_at_call 94; refine hfl.mono ?_; rintro e w3 ⟨rfl, hd3, hm3⟩)
        go_roundw
        case rel => exact ⟨k + 1, by omega, by go_num, by rw [← HE.out]; exact hd3, hmk.trans hm3 (fun j hj => .inl hj)⟩
        case measure => simp [intOf]; omega
      · obtain rfl : k = E.bs.length := by omega
        have hdk' : DevAt S wr B { E with bs := E.bs.map Blk.flush } := by
          have : E.part E.bs.length = { E with bs := E.bs.map Blk.flush } := by simp [Dv.part]
          rw [← this]; exact hdk
        have HS := hdk'.setWrites 0 (flushed_fits hdk'.fits |> fun hf => by
          have e1 : Dv.flushed { E with bs := E.bs.map Blk.flush } = { { E with bs := E.bs.map Blk.flush } with writes := 0 } := by
            simp only [Dv.flushed, List.map_map]
            congr 1
            refine List.map_congr_left (fun b _ => ?_)
            simp only [Function.comp]
            rw [show b.flush.flush = b.flush by rw [Blk.flush, if_pos (by rw [flush_pending]; rfl)]]
          rw [← e1]; exact hf)
        obtain ⟨R2, sv2, C2, k2⟩ := id hdk
        have c1 := k2.c1
        have f1 := k2.fB 1
        clear k2 hdk hdk'
        go_wp2
        go_ret
        exact ⟨rfl, HS.1, hmk.trans HS.2 (fun j hj => .inl hj)⟩
  · have hu' : D.up = false := by simpa using hu
    have e0 : D.flush = (5, D.op) := by simp [Dv.flush, hu']
    rw [e0]
    rw [hu'] at hop
    clear e0 hu hu' hw
    go_enter Tryd.func79, Tryd.ntmps79
    go_wp2_with (go_at_call 93; refine hop.mono ?_; rintro e w1 ⟨rfl, hd1, hm1⟩)
    go_ret
    exact ⟨rfl, hd1, hm1⟩
end
end Go.Proofs.YtpjbkeheemhlnaaDoor
