/- The writing of a store's blocks. No conditions beyond those in each statement. -/
import Derived.Test.YtiknfifiglooeaaDoorChunkLr
import Derived.Deep.RegionHeld3
import Derived.Deep.RegionWith
import Derived.Deep.DeepCutAuto
import Derived.IntWalk
namespace Go.Proofs.YtiknfifiglooeaaDoor
open Go.RowKit
set_option linter.unusedVariables false
set_option maxRecDepth 100000

theorem DevW.growAllC {n : Nat} {E : Nat → Prop} {w x : World} {B : Nat} {D : Dv} (h : DevW n E w B D) (hb : Below w.heap.size w x) : DevW n (fun k => E k ∨ (w.heap.size ≤ k ∧ k < x.heap.size)) x B D := by
  obtain ⟨S, h, hS, hE⟩ := h
  refine ⟨S, h.below hb, fun k hk => ⟨(hS k hk).1, fun e => e.elim (hS k hk).2 (fun e => ?_)⟩, fun k hk => ?_⟩
  · have := h.lt k hk; omega
  · rcases hk with hk | hk
    · have := hE k hk; have := hb.size; omega
    · exact hk.2
theorem DevW.setCellC {n : Nat} {E : Nat → Prop} {w : World} {B : Nat} {D : Dv} (h : DevW n E w B D) {p : Addr} (hE : E p.block) (v : Value) : DevW n E (w.setCell p v) B D := by
  obtain ⟨S, ⟨R, sv, C, h⟩, hS, hl⟩ := h
  exact ⟨S, ⟨R, sv, C, h.keep (by simp) (fun k hk => Below.heap_setCell w p v k (fun e => (hS k hk).2 (by rw [e]; exact hE)))⟩, hS, fun k hk => by simpa using hl k hk⟩
section
variable {m : Nat} {E : Nat → Prop} {w : World} {B b : Nat} {D : Dv} {base i t n area : Int} {sv : Value}
theorem c_swrite_writes (D : Dv) (i : Int) (r : Rc) : (D.swrite i r).2.writes ≤ D.writes + 1 := by
  unfold Dv.swrite
  split
  · unfold Dv.write
    split
    · split
      · show D.op.writes ≤ _; rw [D.op_writes]; omega
      · split
        · show D.op.writes ≤ _; rw [D.op_writes]; omega
        · exact Nat.le_refl _
    · show D.op.writes ≤ _; rw [D.op_writes]; omega
  · exact Nat.le_add_right _ _
theorem c_flush_writes (D : Dv) : D.flush.2.writes ≤ D.writes := by
  unfold Dv.flush
  split
  · exact Nat.zero_le _
  · show D.op.writes ≤ _; rw [D.op_writes]; exact Nat.le_refl _
theorem c_one_writes (D : Dv) (i : Int) (r : Rc) : (D.one i r).2.writes ≤ D.writes + 1 := by
  unfold Dv.one
  split
  · exact Nat.le_trans (c_flush_writes _) (c_swrite_writes D i r)
  · exact c_swrite_writes D i r
theorem c_one_stop {D : Dv} {f : Int} {r : Rc} (h : (D.swrite f r).1 ≠ 0) : D.one f r = D.swrite f r := by unfold Dv.one; rw [if_neg h]
theorem c_one_go {D : Dv} {f : Int} {r : Rc} (h : (D.swrite f r).1 = 0) : D.one f r = (D.swrite f r).2.flush := by unfold Dv.one; rw [if_pos h]
set_option maxHeartbeats 4000000 in
theorem cstore_any (blk : Int) (r : Rc) (h : DevW m E w B D) (hs : CsB w b B base i t n sv area) (hE : E b) (hm : m ≤ w.heap.size) (ht : ∀ x, Below m w x → Tabs x) (hw : D.writes ≤ 1073741000) :
    Calls Tryd.prog 88 #[.pointer (some ⟨b, 0, none⟩), .int .i64 blk, recV r] w fun e w' => e = .returned (.int .i64 (D.one blk r).1) ∧ DevW m E w' B (D.one blk r).2 ∧ Below m w w' ∧ Kept E w w' := by
  have b1 := (Below.refl w.heap.size w).alloc (Nat.le_refl _) (.cells #[.int .i64 r.kind, .int .i64 r.index, .int .i64 r.term, .string r.data] 58)
  have R1 := RecB.new w r
  have H1 := h.growAllC b1
  have S1 := hs.below b1
  have hml : m ≤ (w.alloc (.cells #[.int .i64 r.kind, .int .i64 r.index, .int .i64 r.term, .string r.data] 58)).drew.heap.size := Nat.le_trans hm b1.size
  have HWR := Lib.hid (devw_swrite blk r hml (ht _ ((b1.mono hm).drew)) (by omega) H1.drew)
  have hbs := h.lt b hE
  have HWW := Lib.hid (c_swrite_writes D blk r)
  have HH := Lib.hid h
  have HB1 := Lib.hid b1
  unfold recV
  unfold recV at HWR
  go_enter Tryd.func88, Tryd.ntmps88
  go_upto_region 1 with fail
  generalize w.alloc (.cells #[.int .i64 r.kind, .int .i64 r.index, .int .i64 r.term, .string r.data] 58) = w1 at R1 S1 HWR HB1 b1 ⊢
  obtain ⟨⟨c0, _⟩, _⟩ := S1.cells
  obtain ⟨⟨r0, r1, r2, r3⟩, _⟩ := R1.cells
  have S1d : CsB w1.drew b B base i t n sv area := S1
  have R1d : RecB w1.drew w.heap.size r := R1
  clear h hs H1 hml
  go_region_held3 (fun w' => w'.cell? ⟨b, 0, none⟩ = some (.pointer (some ⟨B, 0, none⟩)) ∧ w'.cell? ⟨w.heap.size, 0, none⟩ = some (.int .i64 r.kind) ∧ w'.cell? ⟨w.heap.size, 1, none⟩ = some (.int .i64 r.index) ∧ w'.cell? ⟨w.heap.size, 2, none⟩ = some (.int .i64 r.term) ∧ w'.cell? ⟨w.heap.size, 3, none⟩ = some (.string r.data)) (first | (with_reducible assumption) | (refine ⟨?_, ?_, ?_, ?_, ?_⟩ <;> with_reducible assumption) | go_keep)
    ((go_at_call 77; refine HWR.out.mono ?_; rintro e w2 ⟨rfl, D2, b2, k2⟩; have S2 := S1d.keep k2 (Or.inl hE); have R2 := R1d.keep k2 (Or.inr ⟨Nat.le_refl _, R1d.lt⟩); obtain ⟨⟨d0, _⟩, _⟩ := S2.cells; obtain ⟨⟨s0, s1, s2, s3⟩, _⟩ := R2.cells))
  have b3 := b1.mono hm
  have hm2 : m ≤ w2.heap.size := Nat.le_trans hm (Nat.le_trans b1.size b2.size)
  have HB2 : Hid (Below m w w2) := b3.drew.trans b2
  have HK2 : Hid (Kept E w w2) := fun k hk => (k2 k (Or.inl hk)).trans (show w1.drew.heap[k]? = _ from b1.block k (HH.out.lt k hk))
  have HD2 := Lib.hid (D2.less (F := E) (fun k hk => Or.inl hk))
  have HFL := Lib.hid (devw_flush hm2 (by have := HWW.out; omega) HD2.out)
  clear D2 b2 k2 S2 R2 s0 s1 s2 s3 r0 r1 r2 r3 c0 S1 R1 S1d R1d b3
  by_cases hz : (D.swrite blk r).1 = 0
  · have HO : Hid (D.one blk r = (D.swrite blk r).2.flush) := c_one_go hz
    rw [hz]
    go_wp2_with fail
    refine HFL.out.mono ?_
    rintro e w3 ⟨rfl, D3, b3, k3⟩
    go_wp2_with fail
    go_ret
    rw [HO.out]
    exact ⟨rfl, D3, HB2.out.trans b3, HK2.out.trans k3⟩
  · have HO : Hid (D.one blk r = D.swrite blk r) := c_one_stop hz
    have hz2 : ((D.swrite blk r).1 == 0) = false := by simp [hz]
    have hz3 : ((D.swrite blk r).1 != 0) = true := by simp [hz]
    go_wp2_with fail
    go_ret
    rw [HO.out]
    exact ⟨rfl, HD2.out, HB2.out, HK2.out⟩
end
end Go.Proofs.YtiknfifiglooeaaDoor
