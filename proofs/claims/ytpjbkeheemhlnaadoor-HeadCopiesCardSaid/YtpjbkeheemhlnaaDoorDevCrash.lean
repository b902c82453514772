/- Crash: the device behind a power failure; no conditions beyond those in each statement. -/
import Derived.Test.YtpjbkeheemhlnaaDoorDevBlkCrash
namespace Go.Proofs.YtpjbkeheemhlnaaDoor
open Go.RowKit Go.Shelf
set_option linter.unusedVariables false
set_option maxRecDepth 100000

theorem blkcrash_any (b : Blk) (v fv : Value) (zs : List Int) (w : World) (hp : ∀ p ∈ b.pending, p.data.size ≤ 512) (hc : b.pending.length ≤ 4611686018427387904)
    (h : w.ownsRow 0 144 2 v b.pending.length (wrCells b.pending)) (hz : Fts w fv zs) :
    Calls Tryd.prog 57 #[blkV b v, fv] w fun e w' => e = .returned (blkV (b.crash zs) (.slice none 0 0)) ∧ Below w.heap.size w w' :=
  callsIn_wide.1 (blkcrash_in b v fv zs w hp hc h hz)

theorem crash_shape (zs : List Int) (b : Blk) (hd : b.durable.size ≤ 512) (hp : ∀ p ∈ b.pending, p.data.size ≤ 512) : (b.crash zs).pending = [] ∧ (b.crash zs).durable.size ≤ 512 ∧ (b.crash zs).lost = b.lost := by
  unfold Blk.crash
  cases h : b.pending.reverse.findSome? (oneHit zs b) with
  | none => exact ⟨rfl, hd, rfl⟩
  | some r =>
    obtain ⟨p, hm, hr⟩ := List.exists_of_findSome?_eq_some h
    have := hp p (List.mem_reverse.1 hm)
    unfold oneHit at hr
    split at hr
    · obtain rfl := Option.some.inj hr
      exact ⟨rfl, this, rfl⟩
    · split at hr
      · obtain rfl := Option.some.inj hr
        refine ⟨rfl, ?_, rfl⟩
        show (p.data.extract 0 (p.data.size / 2)).size ≤ 512
        rw [ByteArray.size_extract]
        omega
      · cases hr

/-- The device behind a power failure. -/
def Dv.crash (D : Dv) (zs : List Int) : Dv := ⟨D.bs.map (Blk.crash zs), 0, false, 0, false⟩
def Dv.cpart (D : Dv) (zs : List Int) (k : Nat) : Dv := ⟨(D.bs.take k).map (Blk.crash zs) ++ List.replicate (D.bs.length - k) blk0, 0, false, 0, false⟩
theorem cpart_zero (D : Dv) (zs : List Int) : D.cpart zs 0 = Dv.newN D.bs.length := by simp [Dv.cpart, Dv.newN]
theorem cpart_len (D : Dv) (zs : List Int) (k : Nat) (hk : k ≤ D.bs.length) : (D.cpart zs k).bs.length = D.bs.length := by simp [Dv.cpart]; omega
theorem cpart_at (D : Dv) (zs : List Int) (k : Nat) (hk : k < D.bs.length) : (D.cpart zs k).bs[k]? = some blk0 := by
  simp only [Dv.cpart]
  rw [List.getElem?_append_right (by simp; omega)]
  simp only [List.length_map, List.length_take, show min k D.bs.length = k by omega, Nat.sub_self]
  rw [List.getElem?_replicate, if_pos (by omega)]
theorem cpart_succ (D : Dv) (zs : List Int) (k : Nat) (b : Blk) (hb : D.bs[k]? = some b) : { D.cpart zs k with bs := (D.cpart zs k).bs.set k (b.crash zs) } = D.cpart zs (k + 1) := by
  have hi := (List.getElem?_eq_some_iff.1 hb).1
  have he : D.bs[k] = b := (List.getElem?_eq_some_iff.1 hb).2
  simp only [Dv.cpart]
  congr 1
  rw [List.set_append_right _ _ (by simp; omega)]
  simp only [List.length_map, List.length_take, show min k D.bs.length = k by omega, Nat.sub_self]
  obtain ⟨m, hm⟩ : ∃ m, D.bs.length - k = m + 1 := ⟨D.bs.length - k - 1, by omega⟩
  rw [hm, List.replicate_succ, List.set_cons_zero, List.take_succ_eq_append_getElem hi, he, show D.bs.length - (k + 1) = m by omega]
  simp
theorem cpart_all (D : Dv) (zs : List Int) : D.cpart zs D.bs.length = D.crash zs := by simp [Dv.cpart, Dv.crash]

section
variable {S : Nat → Prop} {w x : World} {B R : Nat} {sv : Nat → Value} {C : Array Value} {D : Dv}
/-- A block by value is stored. -/
def stored (W : World) (R k : Nat) (r : Blk) : World :=
  (((W.setCell ⟨R, k * 4, none⟩ (.string r.durable)).setCell ⟨R, k * 4 + 1, none⟩ (.bool r.spoiled)).setCell ⟨R, k * 4 + 2, none⟩ (.bool r.lost)).setCell ⟨R, k * 4 + 3, none⟩ (.slice none 0 0)
theorem store_put (k : Nat) (b r : Blk) (h : DevIn S w B R sv C D) (hb : D.bs[k]? = some b) (hs : r.durable.size ≤ 512) (hp : r.pending = []) :
    DevAt S (stored w R k r) B { D with bs := D.bs.set k r } ∧ Mod S w (stored w R k r) := by
  have hkl := (List.getElem?_eq_some_iff.1 hb).1
  obtain ⟨c0, c1, c2, c3⟩ := h.cells k b hb
  have hBR := h.BR
  have h1 := h.put (x := stored w R k r) (D' := { D with bs := D.bs.set k r }) (b' := r) (v' := .slice none 0 0) hb rfl
    (by unfold stored; rw [block_setCell_other hBR, block_setCell_other hBR, block_setCell_other hBR, block_setCell_other hBR, h.hB]; simp [devCells])
    (block_setCell (block_setCell (block_setCell (block_setCell h.hR)))) (by simp)
    (fun j hj => by rw [row_cell (w := w) (b := 0) (by omega), row_cell (w := w) (b := 0) (by omega), row_cell (w := w) (b := 0) (by omega), row_cell (w := w) (b := 0) (by omega)])
    (by rw [row_cell (w := w) (b := 0) (by omega), row_cell (w := w) (b := 0) (by omega), row_cell (w := w) (b := 0) (by omega)]; exact row_cell_same c0)
    (by rw [row_cell (w := w) (b := 0) (by omega), row_cell (w := w) (b := 0) (by omega)]; exact row_cell_same (by rw [row_cell (w := w) (b := 0) (by omega)]; exact c1))
    (by rw [row_cell (w := w) (b := 0) (by omega)]; exact row_cell_same (by rw [row_cell (w := w) (b := 0) (by omega), row_cell (w := w) (b := 0) (by omega)]; exact c2))
    (row_cell_same (by rw [row_cell (w := w) (b := 0) (by omega), row_cell (w := w) (b := 0) (by omega), row_cell (w := w) (b := 0) (by omega)]; exact c3))
    (by rw [hp]; exact World.ownsRow_nil _ _ _ _) (fun j e => by simp [Value.ownBlock] at e) (by simp [stored, World.setCell])
    (fun j _ hB hR _ => by unfold stored; rw [block_setCell_other hR, block_setCell_other hR, block_setCell_other hR, block_setCell_other hR])
    (h.fits.set hb hs (by rw [hp]; exact fun p hp => by cases hp) (by rw [hp]; exact Nat.zero_le _))
  have hS : (fun k => S k ∨ (Value.slice none 0 0).ownBlock = some k) = S := by funext j; simp [Value.ownBlock]
  rw [hS] at h1
  exact ⟨⟨_, _, _, h1⟩, ((((Mod.refl S w).setCell (p := ⟨R, k * 4, none⟩) (.inl h.sR) _).setCell (p := ⟨R, k * 4 + 1, none⟩) (.inl h.sR) _).setCell (p := ⟨R, k * 4 + 2, none⟩) (.inl h.sR) _).setCell (p := ⟨R, k * 4 + 3, none⟩) (.inl h.sR) _⟩
/-- A wider set will do, if it is allocated. -/
theorem DevAt.wide {T : Nat → Prop} (h : DevAt S w B D) (hS : ∀ k, S k → T k) (hT : ∀ k, T k → k < w.heap.size) : DevAt T w B D := by
  obtain ⟨R, sv, C, h⟩ := h
  exact ⟨R, sv, C, { h with sB := hS _ h.sB, sR := hS _ h.sR, sP := fun i k hi hk => hS _ (h.sP i k hi hk), lt := hT }⟩
end

set_option maxHeartbeats 2000000 in
theorem crash_any {S : Nat → Prop} {w : World} {B : Nat} {D : Dv} (fv : Value) (zs : List Int) (hw : D.writes ≤ 4611686018427387904) (h : DevAt S w B D) (hz : Fts w fv zs) :
    Calls Tryd.prog 28 #[.pointer (some ⟨B, 0, none⟩), fv] w fun e w' => NewDev (D.crash zs) w e w' := by
  have hnew := new_any (D.bs.length : Int) w
  have hfit := h.fits
  have hmany := hfit.many
  have e0 : Dv.new (D.bs.length : Int) = Dv.newN D.bs.length := by unfold Dv.new; congr 1; unfold howMany; omega
  rw [e0] at hnew
  clear e0
  obtain ⟨fa, fcap, rfl⟩ : ∃ fa fcap, fv = .slice fa zs.length fcap := by obtain ⟨fa, fcap, h, _⟩ := hz; exact ⟨fa, fcap, h⟩
  go_enter Tryd.func28, Tryd.ntmps28
  go_wp2_with fail
  refine (size_any h).mono ?_
  rintro e w' ⟨rfl, rfl⟩
  go_wp2_with fail
  refine hnew.mono ?_
  rintro e w1 ⟨B1, rfl, hd1, hb1⟩
  clear hnew
  obtain ⟨R1, sv1, C1, k1⟩ := id hd1
  have c0 := k1.c0
  rw [show (Dv.newN D.bs.length).bs.length = D.bs.length by simp [Dv.newN]] at c0
  clear k1
  go_wp2_with fail
  go_loopw [15] (fun i wr => ∃ k : Nat, k ≤ D.bs.length ∧ i = .int .i64 k ∧ (∃ S', DevAt S' wr B1 (D.cpart zs k) ∧ ∀ j, S' j → w.heap.size ≤ j) ∧ Below w.heap.size w wr) (fun i _ => D.bs.length - (intOf i).toNat)
  case atStart => exact ⟨0, Nat.zero_le _, rfl, ⟨span w.heap.size w1.heap.size, by rw [cpart_zero]; exact hd1, fun j hj => hj.1⟩, hb1⟩
  case round =>
    obtain ⟨k, hk, rfl, ⟨S', hdk, hS'⟩, hbk⟩ := hrel
    clear hd1 hb1 c0
    by_cases hlt : k < D.bs.length
    · obtain ⟨b, hb⟩ : ∃ b, D.bs[k]? = some b := ⟨_, List.getElem?_eq_getElem hlt⟩
      have hm := List.mem_of_getElem? hb
      have hsh := crash_shape zs b (hfit.durable b hm) (fun p hp => (hfit.pending b hm p hp).1)
      have hb0 := cpart_at D zs k hlt
      have HSU := Lib.hid (cpart_succ D zs k b hb)
      obtain ⟨R2, sv2, C2, k2⟩ := id hdk
      obtain ⟨R, sv, C, kd⟩ := h.below hbk
      have hrow := kd.rows k b hb
      obtain ⟨sa, scap, hsv⟩ := slice_of hrow
      have d0 := kd.c0
      have q0 := kd.r0 hb
      have q1 := kd.r1 hb
      have q2 := kd.r2 hb
      have q3 := kd.r3 hb
      rw [hsv] at q3 hrow
      have hcnt := kd.fits.count b hm
      have HCR := Lib.hid (fun (W : World) (hW : Below wr.heap.size wr W) => blkcrash_any b _ (.slice fa zs.length fcap) zs W (fun p hp => (hfit.pending b hm p hp).1) (by omega) (ownsRow_same hrow (fun j e => hW.block j (by obtain ⟨cur, hc⟩ := ownsRow_block hrow e; exact lt_of_block hc))) ((hz.below hbk).below hW))
      have HOF := Lib.hid (fun (W : World) (hW : Below wr.heap.size wr W) =>
        have k3 := k2.keep hW.size (fun j hj => hW.block j (k2.lt j hj))
        show (W.cell? ⟨B1, 0, none⟩ = some (.slice (some ⟨R2, 0, none⟩) D.bs.length D.bs.length) ∧ W.cell? ⟨R2, k * 4, none⟩ = some (.string ⟨#[]⟩) ∧ W.cell? ⟨R2, k * 4 + 1, none⟩ = some (.bool false) ∧ W.cell? ⟨R2, k * 4 + 2, none⟩ = some (.bool false) ∧ W.cell? ⟨R2, k * 4 + 3, none⟩ = some (sv2 k)) ∧
          (W.frozen? ⟨R2, k * 4, none⟩ = false ∧ W.frozen? ⟨R2, k * 4 + 1, none⟩ = false ∧ W.frozen? ⟨R2, k * 4 + 2, none⟩ = false ∧ W.frozen? ⟨R2, k * 4 + 3, none⟩ = false) from
        ⟨⟨by have := k3.c0; rwa [cpart_len D zs k (by omega)] at this, k3.r0 hb0, k3.r1 hb0, k3.r2 hb0, k3.r3 hb0⟩, k3.fR _, k3.fR _, k3.fR _, k3.fR _⟩)
      have HPUT := Lib.hid (fun (W : World) (hW : Below wr.heap.size wr W) => store_put k blk0 (b.crash zs) (k2.keep hW.size (fun j hj => hW.block j (k2.lt j hj))) hb0 hsh.2.1 hsh.1)
      obtain ⟨⟨o0, p0, p1, p2, p3⟩, f0, f1, f2, f3⟩ := HOF.out wr (Below.refl _ _)
      clear hsh hb0 hrow hsv k2 kd hm hb hdk
      have HD := Lib.hid hS'
      clear hS'
      generalize hr : b.crash zs = r at HCR HPUT
      have HR := Lib.hid hr
      clear hr
      go_wp2_with fail
      go_region_with (go_at_call 57; refine (HCR.out _ (Below.refl _ _).drew).mono ?_; rintro e w2 ⟨rfl, hb2'⟩; have hb2 : Below wr.heap.size wr w2 := (Below.refl _ _).drew.trans hb2'; clear hb2'; obtain ⟨⟨o0', p0', p1', p2', p3'⟩, f0', f1', f2', f3'⟩ := HOF.out w2 hb2)
      all_goals
        go_wp2
        go_roundw
        case rel =>
          obtain ⟨hd3, hm3⟩ := HPUT.out w2 hb2
          refine ⟨k + 1, by omega, by go_num, ⟨S', ?_, HD.out⟩, ?_⟩
          · rw [← HSU.out, HR.out]; exact hd3
          · exact (hbk.trans (hb2.mono hbk.size)).trans (hm3.toBelow HD.out (Nat.le_trans hbk.size hb2.size))
        case measure => simp [intOf]; omega
    · obtain rfl : k = D.bs.length := by omega
      rw [cpart_all] at hdk
      go_wp2
      go_ret
      exact ⟨B1, rfl, hdk.wide (fun j hj => ⟨hS' j hj, hdk.lt j hj⟩) (fun j hj => hj.2), hbk⟩
end Go.Proofs.YtpjbkeheemhlnaaDoor
