/- Law 6's Again, of a log that was at rest: opened again there is what should be. No conditions beyond those in each statement. -/
import Derived.Test.YtigebaaldikeaaaDoorPlogEns
namespace Go.Proofs.YtigebaaldikeaaaDoor
open Go.RowKit
set_option linter.unusedVariables false
set_option maxRecDepth 100000

section
variable {m wb : Nat} {w : World} {E : Nat → Prop} {B b bt bd cnt : Nat} {D : Dv} {first : Int} {xs : List En} {va vm : Value}
theorem ne_wld {w : World} {wb B b g off : Nat} {f : Int} {va vm : Value} {n : Nat} (hV : WldB w wb B b f va vm) (hc : CapS va n) {i j : Int} (h0 : w.cell? ⟨g, off, none⟩ = some (.int .i64 i)) (h1 : w.cell? ⟨g, off + 1, none⟩ = some (.int .i64 j)) : g ≠ wb := by
  rintro rfl
  obtain ⟨a, cap, rfl, _⟩ := hc
  obtain ⟨⟨c0, c1, c2, c3, c4⟩, _⟩ := hV.cells
  rcases off with _ | _ | _ | _ | _ | off
  · rw [c0] at h0; cases h0
  · rw [c1] at h0; cases h0
  · rw [c3] at h1; cases h1
  · rw [c3] at h0; cases h0
  · rw [c4] at h0
    unfold WldB at hV
    simp [World.cell?, hV] at h1
  · unfold WldB at hV
    simp [World.cell?, hV] at h0
theorem EnA.setW {F : Nat → Prop} {w : World} {wb B b : Nat} {f : Int} {va vm : Value} {n : Nat} {v : Value} {xs : List En} (h : EnA F w v xs) (hV : WldB w wb B b f va vm) (hc : CapS va n) (i : Nat) (u : Value) : EnA F (w.setCell ⟨wb, i, none⟩ u) v xs := by
  obtain ⟨a, cap, hv, hn, h⟩ := h
  refine ⟨a, cap, hv, hn, h.imp id ?_⟩
  rintro ⟨g, off, ha, hg, hl, hr⟩
  refine ⟨g, off, ha, hg, by simpa using hl, fun j x hx => ?_⟩
  obtain ⟨c0, c1, c2⟩ := hr j x hx
  have hne := ne_wld hV hc c0 c1
  have e : (w.setCell ⟨wb, i, none⟩ u).heap[g]? = w.heap[g]? := block_setCell_other hne
  rw [cell_kept e, cell_kept e, cell_kept e]
  exact ⟨c0, c1, c2⟩
theorem cells_at {w : World} {g off : Nat} {v : Value} (h : w.cell? ⟨g, off, none⟩ = some v) : ∃ vs t q, w.heap[g]? = some (.cells vs t q) := by
  unfold World.cell? at h
  simp only at h
  split at h
  · rename_i vs t q hb
    exact ⟨vs, t, q, hb⟩
  · cases h
/-- The log opened anew: what should be there is its own as before. -/
theorem ena_open {w w' : World} {F E' : Nat → Prop} {b B bt bd cnt : Nat} {D : Dv} {first : Int} {xs ys : List En} {v : Value} {n : Nat} (h : EnA F w v xs) (hk : Kept F w w') (hs : w.heap.size ≤ w'.heap.size) (hl : Lw n E' w' b B bt bd 19 3 8 first ys cnt D) (hF : ∀ j, F j → E' j) (hb : w.heap.size ≤ b) : EnA (But E' b bt bd) w' v xs := by
  obtain ⟨a, cap, hv, hn, h⟩ := h
  refine ⟨a, cap, hv, hn, ?_⟩
  rcases h with h | ⟨g, off, ha, hg, hl', hc⟩
  · exact .inl h
  · cases xs with
    | nil => exact .inl rfl
    | cons x l =>
      have e := hk g hg
      have hc' : ∀ j y, (x :: l)[j]? = some y → w'.cell? ⟨g, off + j * 3, none⟩ = some (.int .i64 y.index) ∧ w'.cell? ⟨g, off + j * 3 + 1, none⟩ = some (.int .i64 y.term) ∧ w'.cell? ⟨g, off + j * 3 + 2, none⟩ = some (.string y.data) := fun j y hj => by
        rw [cell_kept e, cell_kept e, cell_kept e]
        exact hc j y hj
      obtain ⟨vs, t, q, hb'⟩ := cells_at (hc' 0 x rfl).1
      exact .inr ⟨g, off, ha, hl.but (hF g hg) hb' (by omega), Nat.lt_of_lt_of_le hl' hs, hc'⟩
set_option maxHeartbeats 4000000 in
theorem again_any (h : WlIn m wb w E B b bt bd D first xs cnt va vm) (ht : ∀ x, Below m w x → Tabs x) (fv : Value) (zs : List Int) (hz : Fts w fv zs) :
    Calls Tryd.prog 31 #[.pointer (some ⟨wb, 0, none⟩), fv] w fun e w' => e = .returned (.bool true) ∧ Wl m wb w' first xs 20000 ∧ Below m w w' := by
  have hfi := h.lw.neat.ents.fits
  have hf1 := h.lw.neat.ents.first
  have hhi := h.lw.neat.ents.high
  simp only at hfi hf1 hhi
  have hms := h.size
  have hmw := h.mwb
  have H := Lib.hid h
  have HT := Lib.hid ht
  have HCR := Lib.hid (fun (W : World) (hb : Below w.heap.size w W) => devw_crash fv zs (by rw [h.lw.neat.calm.writes]; decide) (h.lw.dev.below hb) (hz.below hb))
  obtain ⟨⟨c0, c1, c2, c3, c4⟩, f0, f1, f2, f3, f4⟩ := h.wld.cells
  obtain ⟨a, cap, rfl, hcap, hnone, hspot⟩ := h.cap
  have hxl := h.all
  clear h ht
  go_enter Tryd.func31, Tryd.ntmps31
  go_wp2_with fail
  refine (HCR.out w (Below.refl _ _)).mono ?_
  rintro e w1 ⟨C, rfl, hd, hb1⟩
  have V1 := H.out.wld.below hb1
  have X1 : DevW m (But E b bt bd) w1 C (D.crash zs) := devw_new hd hms (fun j hj => H.out.lw.dev.lt j hj.1) hb1.size
  have V2 := V1.setDev C
  have X2 : DevW m (But E b bt bd) (w1.setCell ⟨wb, 0, none⟩ (.pointer (some ⟨C, 0, none⟩))) C (D.crash zs) := X1.setCell (p := ⟨wb, 0, none⟩) H.out.but hmw _
  have hb1m := hb1.mono hms
  have B2 : Below m w (w1.setCell ⟨wb, 0, none⟩ (.pointer (some ⟨C, 0, none⟩))) := hb1m.setCell (p := ⟨wb, 0, none⟩) hmw _
  have A2 := ((H.out.below hb1).all).setW V1 H.out.cap 0 (.pointer (some ⟨C, 0, none⟩))
  clear hd X1 c0 c1 c2 c3 c4 f0 f1 f2 f3 f4
  obtain ⟨⟨c0, c1, c2, c3, c4⟩, f0, f1, f2, f3, f4⟩ := V1.cells
  have hw2 : w1.heap.size ≤ (w1.setCell ⟨wb, 0, none⟩ (.pointer (some ⟨C, 0, none⟩))).heap.size := by simp
  go_upto_region 2 with fail
  generalize w1.setCell ⟨wb, 0, none⟩ (.pointer (some ⟨C, 0, none⟩)) = w2 at V2 X2 B2 A2 hw2 ⊢
  have N2 := (H.out.lw.neat).crash zs
  have HUC := Lib.hid (unsp_crash H.out.pure H.out.lw.neat.calm zs)
  have V2d : WldB w2.drew wb C b first (.slice a xs.length cap) vm := V2
  have X2d := X2.drew
  have B2d := B2.drew
  have HOP := Lib.hid (lw_open (base := 3) (sz := 8) X2d N2 (by decide) (Nat.le_trans hms B2d.size) (fun y hy => HT.out y (B2d.trans hy)))
  clear c0 c1 c2 c3 c4 f0 f1 f2 f3 f4 N2
  have p0 := V2.cells.1.1
  have p2 := V2.cells.1.2.2.1
  go_region_held3 (fun w' => w'.cell? ⟨wb, 0, none⟩ = some (.pointer (some ⟨C, 0, none⟩)) ∧ w'.cell? ⟨wb, 2, none⟩ = some (.int .i64 first)) (first | (with_reducible assumption) | (refine ⟨?_, ?_⟩ <;> with_reducible assumption) | go_keep)
    ((go_at_call 26; refine HOP.out.mono ?_; rintro e w3 ⟨b3, bt3, bd3, D3, rfl, L3, hu3, hb3, hk3, hs3⟩; have V3 := V2d.keep hk3 H.out.but; have q0 := V3.cells.1.1; have q2 := V3.cells.1.2.2.1))
  have B3 := B2d.trans hb3
  have A3 := ena_open (A2.keep (w' := w2.drew) (G := But E b bt bd) (fun _ _ => rfl) (fun _ h => h) (Nat.le_refl _)) hk3 hb3.size L3 (fun j hj => .inl hj) hs3
  have hne : wb ≠ b3 := by have := V2.lt; have : w2.drew.heap.size = w2.heap.size := rfl; omega
  have but3 := L3.but (.inl H.out.but) V3 hne
  have HU3 := Lib.hid (hu3 HUC.out)
  have L4 := L3.setOut but3 hmw 1 (.pointer (some ⟨b3, 0, none⟩))
  have A4 := A3.setW V3 H.out.cap 1 (.pointer (some ⟨b3, 0, none⟩))
  have V4 := V3.setLog b3
  have B4 := B3.setCell (p := ⟨wb, 1, none⟩) hmw (.pointer (some ⟨b3, 0, none⟩))
  have f1 := V3.cells.2.2.1
  have q1 := V3.cells.1.2.1
  clear hu3 hb3 hk3 hs3 X2 X2d A2 p0 p2 V2 V2d HOP
  go_upto_region 6 with fail
  generalize w3.setCell ⟨wb, 1, none⟩ (.pointer (some ⟨b3, 0, none⟩)) = w4 at L4 A4 V4 B4 ⊢
  obtain ⟨M, hM⟩ : ∃ M : Int, M = first + (xs.length : Int) - 1 := ⟨_, rfl⟩
  obtain ⟨q, hq⟩ : ∃ q : Int, q = (xs.length : Int) - 1 := ⟨_, rfl⟩
  have e1 : IntKind.i64.wrap (M - first) = q := by rw [IntWalk.i64_in _ (by omega)]; omega
  have e2 : IntKind.i64.wrap (q + 1) = (xs.length : Int) := by rw [IntWalk.i64_in _ (by omega)]; omega
  have HLA := Lib.hid (lw_last (L4.below (Below.refl _ w4).drew) M hM)
  have V4d : WldB w4.drew wb C b3 first (.slice a xs.length cap) vm := V4
  have r2 := V4.cells.1.2.2.1
  clear hM hq f1 q1 V3 A3 L3 B3
  go_cut [7] (fun v wx => v = .int .i64 (xs.length : Int) ∧ Below w4.heap.size w4 wx)
  case first =>
    go_region_held3 (fun w' => w'.cell? ⟨wb, 2, none⟩ = some (.int .i64 first)) (first | (with_reducible assumption) | go_keep)
      ((go_at_call 27; refine HLA.out.mono ?_; rintro e w5 ⟨rfl, hb5⟩; have B5 := ((Below.refl _ w4).drew).trans hb5; have s2 := (V4d.below hb5).cells.1.2.2.1))
    go_wp2_with fail
    go_meet
    exact ⟨rfl, B5⟩
  case rest =>
    obtain ⟨rfl, hb5⟩ := hcut
    have L5 := L4.below hb5
    have V5 := V4.below hb5
    have A5 := A4.keep (Kept.of_below (fun j hj => L4.dev.lt j hj.1) hb5) (fun _ h => h) hb5.size
    have B5 := B4.trans (hb5.mono (Nat.le_trans hms B4.size))
    have W6 : WlIn m wb _ _ C b3 bt3 bd3 D3 first xs 10000 (.slice a xs.length cap) (.slice none 0 0) := ⟨L5.setOut but3 hmw 4 (.slice none 0 0), V5.setMaybe (.slice none 0 0), A5.setW V5 H.out.cap 4 (.slice none 0 0), H.out.cap, but3, hmw, Nat.le_trans hms (B5.setCell (p := ⟨wb, 4, none⟩) hmw (.slice none 0 0)).size, HU3.out⟩
    have B6 := B5.setCell (p := ⟨wb, 4, none⟩) hmw (.slice none 0 0)
    obtain ⟨⟨t0, t1, t2, t3, t4⟩, u0, u1, u2, u3, u4⟩ := V5.cells
    have HSH := Lib.hid (wl_shows W6 (fun y hy => HT.out y (B6.trans hy)) (by decide))
    have hx8 : (xs.length : Int) ≤ 8 := hfi
    have hx0 : (0 : Int) ≤ (xs.length : Int) := by omega
    clear e1 e2 HLA V4d r2 V4 L4 A4 B4 hb5 L5 A5 V5 W6
    go_wp2_with fail
    refine HSH.out.mono ?_
    rintro e w7 ⟨rfl, W7, hb7⟩
    go_wp2_with fail
    go_ret
    exact ⟨rfl, ⟨_, C, b3, bt3, bd3, D3, _, _, W7.mono (by omega)⟩, B6.trans hb7⟩
end
end Go.Proofs.YtigebaaldikeaaaDoor
