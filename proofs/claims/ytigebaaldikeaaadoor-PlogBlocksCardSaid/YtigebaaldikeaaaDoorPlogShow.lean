/- Law 6's Shows: a log with nothing amiss shows what should be there. No conditions beyond those in each statement. -/
import Derived.Test.YtigebaaldikeaaaDoorPlogNew
namespace Go.Proofs.YtigebaaldikeaaaDoor
open Go.RowKit
set_option linter.unusedVariables false
set_option maxRecDepth 100000

section
variable {n : Nat} {E : Nat → Prop} {w x : World} {b B bt bd M k : Nat} {base size first : Int} {xs : List En} {D : Dv} {L : Lg} {T : Int → Option Int} {S : Int → Bool}
theorem LogW.growAll (h : LogW n E w b B bt bd D L k T S) (hb : Below w.heap.size w x) : LogW n (fun j => E j ∨ (w.heap.size ≤ j ∧ j < x.heap.size)) x b B bt bd D L k T S :=
  ⟨h.dev.growAll hb, h.log.below hb, h.terms.below hb, h.hurts.below hb, .inl h.eb, .inl h.et, .inl h.ed, h.nb, h.nt, h.nd, h.bt_ne, h.bd_ne, h.td_ne⟩
/-- The log's own blocks and those made since. -/
def Made (E : Nat → Prop) (b bt bd : Nat) (w W : World) : Nat → Prop := fun j => But E b bt bd j ∨ (w.heap.size ≤ j ∧ j < W.heap.size)
theorem lw_readW (h : Lw n E w b B bt bd M base size first xs k D) (hM : M ≤ 4096) (i : Int) (V : En × Int) (hV : (∃ j : Nat, xs[j]? = some V.1 ∧ i = first + (j : Int) ∧ V.2 = 1) ∨ ((i < first ∨ first + (xs.length : Int) ≤ i) ∧ V = (en0, 0))) (hi : 0 ≤ i ∧ i ≤ 9223372036854775807) (hn : n ≤ w.heap.size) (ht : ∀ x, Below n w x → Tabs x) (hk : k < 900000000) (W : World) (hb : Below w.heap.size w W) :
    Calls Tryd.prog 24 #[.pointer (some ⟨b, 0, none⟩), .int .i64 i] W fun e w' => e = .returned (lgetV V) ∧ Lw n (fun j => E j ∨ (w.heap.size ≤ j ∧ j < W.heap.size)) w' b B bt bd M base size first xs (k + 1) D ∧ Below n W w' ∧ Kept (Made E b bt bd w W) W w' := by
  obtain ⟨T, hW, hN, hS⟩ := h
  have hx : Lw n (fun j => E j ∨ (w.heap.size ≤ j ∧ j < W.heap.size)) W b B bt bd M base size first xs k D := ⟨T, hW.growAll hb, hN, hS⟩
  have l1 := hW.log.lt
  have l2 := hW.terms.lt
  have l3 := hW.hurts.lt
  refine (lw_read hx hM i V hV hi (Nat.le_trans hn hb.size) (fun y hy => ht y ((hb.mono hn).trans hy)) hk).mono ?_
  rintro e w' ⟨rfl, ⟨T', hW', hN', hS'⟩, hbl, hk'⟩
  refine ⟨rfl, ⟨T', hW', hN', hS'⟩, hbl, hk'.mono ?_⟩
  rintro j (⟨h1, h2, h3, h4⟩ | ⟨h1, h2⟩)
  · exact ⟨.inl h1, h2, h3, h4⟩
  · exact ⟨.inr ⟨h1, h2⟩, by omega, by omega, by omega⟩
theorem Lw.less {F : Nat → Prop} (h : Lw n E w b B bt bd M base size first xs k D) (hF : ∀ j, F j → E j) (hb : F b) (ht : F bt) (hd : F bd) : Lw n F w b B bt bd M base size first xs k D := by
  obtain ⟨T, h1, h2, h3⟩ := h; exact ⟨T, h1.less hF hb ht hd, h2, h3⟩
theorem Lw.own (h : Lw n E w b B bt bd M base size first xs k D) : (E b ∧ E bt ∧ E bd) ∧ (b < w.heap.size ∧ bt < w.heap.size ∧ bd < w.heap.size) := by
  obtain ⟨T, h1, h2, h3⟩ := h; exact ⟨⟨h1.eb, h1.et, h1.ed⟩, h1.log.lt, h1.terms.lt, h1.hurts.lt⟩
/-- What stands behind a Read whose entry is laid in a new block. -/
def RdRel (n : Nat) (E : Nat → Prop) (b B bt bd M k : Nat) (base size first : Int) (xs : List En) (D : Dv) (w0 w1 : World) (V : En × Int) (p s : Value) (wx : World) : Prop :=
  ∃ g, p = .pointer (some ⟨g, 0, none⟩) ∧ s = .int .i64 V.2 ∧ EnB wx g V.1 ∧ Lw n E wx b B bt bd M base size first xs (k + 1) D ∧ Below n w1 wx ∧ Kept (Made E b bt bd w0 w1) w1 wx
def en0c : Obj := .cells #[.int .i64 0, .int .i64 0, .string ⟨#[]⟩] 60 (0, 0)
theorem rd_box {w0 w1 w3 : World} (h0 : w0.heap.size ≤ w1.heap.size) (hk : Kept (Made E b bt bd w0 (w1.alloc (.cells #[.int .i64 0, .int .i64 0, .string ⟨#[]⟩] 60)).drew) (w1.alloc (.cells #[.int .i64 0, .int .i64 0, .string ⟨#[]⟩] 60)).drew w3) : EnB w3 w1.heap.size en0 :=
  (hk w1.heap.size (.inr ⟨h0, by show _ < (w1.alloc _).heap.size; simp⟩)).trans (EnB.new w1 en0)
theorem rd_endA {w0 w1 w3 : World} (V : En × Int) (hl : Lw n E w0 b B bt bd M base size first xs k D) (h0 : w0.heap.size ≤ w1.heap.size) (hn : n ≤ w0.heap.size)
    (hX : Lw n (fun j => E j ∨ (w0.heap.size ≤ j ∧ j < (w1.alloc (.cells #[.int .i64 0, .int .i64 0, .string ⟨#[]⟩] 60)).drew.heap.size)) w3 b B bt bd M base size first xs (k + 1) D)
    (hb : Below n (w1.alloc (.cells #[.int .i64 0, .int .i64 0, .string ⟨#[]⟩] 60)).drew w3)
    (hk : Kept (Made E b bt bd w0 (w1.alloc (.cells #[.int .i64 0, .int .i64 0, .string ⟨#[]⟩] 60)).drew) (w1.alloc (.cells #[.int .i64 0, .int .i64 0, .string ⟨#[]⟩] 60)).drew w3) :
    RdRel n E b B bt bd M k base size first xs D w0 w1 V (.pointer (some ⟨w1.heap.size, 0, none⟩)) (.int .i64 V.2) (setEn w3 w1.heap.size V.1) := by
  have N3 := rd_box h0 hk
  obtain ⟨⟨o1, o2, o3⟩, l1, l2, l3⟩ := hl.own
  have hBut : But (fun j => E j ∨ (w0.heap.size ≤ j ∧ j < (w1.alloc (.cells #[.int .i64 0, .int .i64 0, .string ⟨#[]⟩] 60)).drew.heap.size)) b bt bd w1.heap.size := ⟨.inr ⟨h0, by show _ < (w1.alloc _).heap.size; simp⟩, by omega, by omega, by omega⟩
  have hn1 : n ≤ w1.heap.size := Nat.le_trans hn h0
  refine ⟨w1.heap.size, rfl, rfl, N3.set V.1, ?_, ?_, ?_⟩
  · exact Lw.less (((hX.setOut hBut hn1 0 _).setOut hBut hn1 1 _).setOut hBut hn1 2 _) (fun j hj => .inl hj) o1 o2 o3
  · exact below_en ((((Below.refl n w1).alloc hn1 _).drew).trans hb) hn1 V.1
  · intro j hj
    have hjl : j < w1.heap.size := by
      rcases hj with hj | hj
      · have := hl.dev.lt j hj.1; omega
      · exact hj.2
    rw [setEn_other (Nat.ne_of_lt hjl), hk j (hj.imp id (fun h => ⟨h.1, by show j < (w1.alloc _).heap.size; simp; omega⟩))]
    exact Below.heap_alloc w1 _ j hjl
theorem rd_endB {w0 w1 w3 : World} (V : En × Int) (hl : Lw n E w0 b B bt bd M base size first xs k D) (h0 : w0.heap.size ≤ w1.heap.size) (hn : n ≤ w0.heap.size)
    (hX : Lw n (fun j => E j ∨ (w0.heap.size ≤ j ∧ j < w1.drew.heap.size)) w3 b B bt bd M base size first xs (k + 1) D) (hb : Below n w1.drew w3) (hk : Kept (Made E b bt bd w0 w1.drew) w1.drew w3) :
    RdRel n E b B bt bd M k base size first xs D w0 w1 V (.pointer (some ⟨w3.heap.size, 0, none⟩)) (.int .i64 V.2) (w3.alloc (.cells #[.int .i64 V.1.index, .int .i64 V.1.term, .string V.1.data] 60)) := by
  obtain ⟨⟨o1, o2, o3⟩, l1, l2, l3⟩ := hl.own
  have hn1 : n ≤ w1.heap.size := Nat.le_trans hn h0
  have hb' : Below n w1 w3 := ((Below.refl n w1).drew).trans hb
  refine ⟨w3.heap.size, rfl, rfl, EnB.new w3 V.1, ?_, hb'.alloc (Nat.le_trans hn1 hb'.size) _, fun j hj => ?_⟩
  · exact (Lw.less hX (fun j hj => .inl hj) o1 o2 o3).below ((Below.refl _ w3).alloc (Nat.le_refl _) _)
  · have hjl : j < w1.heap.size := by
      rcases hj with hj | hj
      · have := hl.dev.lt j hj.1; omega
      · exact hj.2
    rw [Below.heap_alloc w3 _ j (Nat.lt_of_lt_of_le hjl hb'.size)]
    exact hk j hj
theorem eq_enn (x : En) (W : World) : (binOp .neq 60 (.agg #[.int .i64 x.index, .int .i64 x.term, .string x.data]) (.agg #[.int .i64 x.index, .int .i64 x.term, .string x.data])).run Tryd.prog W = .ok (.bool false) W := by
  simp [go_sem]
end
/-- A slice of entries that can be read, from anywhere in its row; its block is one of F. -/
def EnA (F : Nat → Prop) (w : World) (v : Value) (xs : List En) : Prop :=
  ∃ a cap, v = .slice a xs.length cap ∧ xs.length ≤ 10000 ∧ (xs.length = 0 ∨ ∃ g off, a = some ⟨g, off, none⟩ ∧ F g ∧ g < w.heap.size ∧
    ∀ j x, xs[j]? = some x → w.cell? ⟨g, off + j * 3, none⟩ = some (.int .i64 x.index) ∧ w.cell? ⟨g, off + j * 3 + 1, none⟩ = some (.int .i64 x.term) ∧ w.cell? ⟨g, off + j * 3 + 2, none⟩ = some (.string x.data))
theorem EnA.keep {F G : Nat → Prop} {w w' : World} {v : Value} {xs : List En} (h : EnA F w v xs) (k : Kept G w w') (hF : ∀ j, F j → G j) (hs : w.heap.size ≤ w'.heap.size) : EnA F w' v xs := by
  obtain ⟨a, cap, hv, hn, h⟩ := h
  refine ⟨a, cap, hv, hn, h.imp id ?_⟩
  rintro ⟨g, off, ha, hg, hl, hc⟩
  have e := k g (hF g hg)
  refine ⟨g, off, ha, hg, Nat.lt_of_lt_of_le hl hs, fun j x hj => ?_⟩
  rw [cell_kept e, cell_kept e, cell_kept e]
  exact hc j x hj
theorem EnA.nil (F : Nat → Prop) (w : World) : EnA F w (.slice none 0 0) [] := ⟨none, 0, rfl, by decide, .inl rfl⟩
set_option maxHeartbeats 4000000 in
theorem shows_any {n : Nat} {E : Nat → Prop} {w : World} {b B bt bd k wb : Nat} {first : Int} {xs : List En} {D : Dv} {va vm : Value} (hW : Lw n E w b B bt bd 19 3 8 first xs k D) (hB : WldB w wb B b first va vm) (hV : EnA (But E b bt bd) w va xs) (hwb : But E b bt bd wb) (hn : n ≤ w.heap.size)
    (ht : ∀ x, Below n w x → Tabs x) (hk : k < 800000000) :
    Calls Tryd.prog 29 #[.pointer (some ⟨wb, 0, none⟩)] w fun e w' => e = .returned (.bool true) ∧ Lw n E w' b B bt bd 19 3 8 first xs (k + xs.length + 2) D ∧ Below n w w' ∧ Kept (But E b bt bd) w w' := by
  have hfi := hW.neat.ents.fits
  have hf1 := hW.neat.ents.first
  have hhi := hW.neat.ents.high
  simp only at hfi hf1 hhi
  obtain ⟨a, cap, rfl, hl, hg⟩ := id hV
  have HT := Lib.hid ht
  have HX := Lib.hid hW
  have HB := Lib.hid hB
  have HV := Lib.hid hV
  have HWB := Lib.hid hwb
  have HMD := Lib.hid (fun (w0 W : World) => show Made E b bt bd w0 W wb from Or.inl hwb)
  have HF1 := Lib.hid (fun (W : World) (hb : Below w.heap.size w W) => lw_first (hW.below hb))
  have HLA := Lib.hid (fun (W : World) (hb : Below w.heap.size w W) => lw_last (hW.below hb) (first + (xs.length : Int) - 1) rfl)
  have HRM := Lib.hid (fun (W : World) (hb : Below w.heap.size w W) => proom_any (hW.below hb).log (by show (0 : Int) ≤ 8 ∧ (8 : Int) ≤ _; omega) (by show (0 : Int) ≤ (xs.length : Int) ∧ (xs.length : Int) ≤ _; omega))
  have HHU := Lib.hid (fun (W : World) (hb : Below w.heap.size w W) => lw_hurt (hW.below hb))
  have HCB := Lib.hid (fun (W : World) (hb : Below w.heap.size w W) => (hB.below hb).cells.1)
  have e1 : IntKind.i64.wrap (first + (xs.length : Int)) = first + (xs.length : Int) := IntWalk.i64_in _ (by omega)
  have e2 : IntKind.i64.wrap (first + (xs.length : Int) - 1) = first + (xs.length : Int) - 1 := IntWalk.i64_in _ (by omega)
  have e3 : IntKind.i64.wrap (8 - (xs.length : Int)) = 8 - (xs.length : Int) := IntWalk.i64_in _ (by omega)
  obtain ⟨_, c1, c2, c3, _⟩ := hB.cells.1
  have bd0 : Below w.heap.size w w.drew := (Below.refl _ w).drew
  simp only at HRM
  clear hW hB hV hwb ht
  go_enter Tryd.func29, Tryd.ntmps29
  go_upto_region 1 with fail
  go_cut [61] (fun c wx => c = .bool false ∧ Below w.heap.size w wx)
  case first =>
    go_region_held3 (fun w' => w'.cell? ⟨wb, 1, none⟩ = some (.pointer (some ⟨b, 0, none⟩)) ∧ w'.cell? ⟨wb, 2, none⟩ = some (.int .i64 first) ∧ w'.cell? ⟨wb, 3, none⟩ = some (.slice a xs.length cap)) (first | (with_reducible assumption) | (refine ⟨?_, ?_, ?_⟩ <;> with_reducible assumption) | go_keep)
      ((first
        | (go_at_call 52; refine (HF1.out _ bd0).mono ?_; rintro e w1 ⟨rfl, rfl⟩)
        | (go_at_call 27; refine (HLA.out _ bd0).mono ?_; rintro e w2 ⟨rfl, hb2⟩; have B2 := bd0.trans (hb2.mono bd0.size); obtain ⟨_, q1, q2, q3, _⟩ := HCB.out w2 B2)
        | (go_at_call 53; refine (HRM.out _ B2).mono ?_; rintro e w3 ⟨rfl, hb3⟩; have B3 := B2.trans (hb3.mono B2.size); obtain ⟨_, r1, r2, r3, _⟩ := HCB.out w3 B3)
        | (go_at_call 25; refine (HHU.out _ B3).mono ?_; rintro e w4 ⟨rfl, hb4⟩; have B4 := B3.trans (hb4.mono B3.size); obtain ⟨_, s1, s2, s3, _⟩ := HCB.out w4 B4)))
    all_goals (go_wp2_with fail; go_meet)
    all_goals exact ⟨rfl, B4⟩
  case rest =>
    obtain ⟨rfl, B4⟩ := hcut
    rename_i wc
    have B4n := B4.mono hn
    obtain ⟨_, q1, q2, q3, _⟩ := HCB.out wc B4
    have X4 := HX.out.below B4
    have K4 : Kept (But E b bt bd) w wc := Kept.of_below (fun j hj => HX.out.dev.lt j hj.1) B4
    clear c1 c2 c3 e3 bd0 HF1 HLA HRM HHU HCB
    go_wp2_with fail
    go_loopw [67] (fun i wr => ∃ j : Nat, j ≤ xs.length ∧ i = .int .i64 j ∧ Lw n E wr b B bt bd 19 3 8 first xs (k + j) D ∧ Below n w wr ∧ Kept (But E b bt bd) w wr) (fun i _ => xs.length - (intOf i).toNat)
    case atStart => exact ⟨0, by omega, rfl, X4, B4n, K4⟩
    case round =>
      obtain ⟨j, hj, rfl, Xj, Bj, Kj⟩ := hrel
      clear X4 B4n K4 B4 q1 q2 q3
      have Wj := HB.out.keep Kj HWB.out
      obtain ⟨_, q1, q2, q3, _⟩ := Wj.cells.1
      have hnj : n ≤ wr.heap.size := Nat.le_trans hn Bj.size
      have e3 : IntKind.i64.wrap (first + (j : Int)) = first + (j : Int) := IntWalk.i64_in _ (by omega)
      by_cases hlt : j < xs.length
      · have hlt' : (j : Int) < (xs.length : Int) := by omega
        have hj0 : (0 : Int) ≤ (j : Int) := by omega
        obtain ⟨x, hx⟩ : ∃ x, xs[j]? = some x := ⟨xs[j], List.getElem?_eq_getElem hlt⟩
        have HIX := Lib.hid hx
        rcases hg with h0 | ⟨g, off, rfl, hFg, hgl, hcell⟩
        · omega
        obtain ⟨m0, m1, m2⟩ := hcell j x hx
        have y0 : wr.cell? ⟨g, off + j * 3, none⟩ = some (.int .i64 x.index) := by rw [cell_kept (Kj g hFg)]; exact m0
        have y1 : wr.cell? ⟨g, off + j * 3 + 1, none⟩ = some (.int .i64 x.term) := by rw [cell_kept (Kj g hFg)]; exact m1
        have y2 : wr.cell? ⟨g, off + j * 3 + 2, none⟩ = some (.string x.data) := by rw [cell_kept (Kj g hFg)]; exact m2
        have HRD := Lib.hid (fun (W : World) (hb : Below wr.heap.size wr W) => lw_readW Xj (by decide) (first + (j : Int)) (x, 1) (.inl ⟨j, hx, rfl, rfl⟩) (by omega) hnj (fun y hy => HT.out y (Bj.trans hy)) (by omega) W hb)
        have HTM := Lib.hid (fun (W : World) (hb : Lw n E W b B bt bd 19 3 8 first xs (k + j + 1) D) => lw_term hb (first + (j : Int)) x.term (.inl ⟨j, x, hx, rfl, rfl⟩) ⟨by omega, by omega⟩)
        have NA := EnB.new wr x
        have bA := (Below.refl wr.heap.size wr).alloc (Nat.le_refl _) (.cells #[.int .i64 x.index, .int .i64 x.term, .string x.data] 60)
        have bAn := bA.mono hnj
        have Heq := eq_enn x
        unfold lgetV enV at HRD
        simp only at HRD
        clear hx m0 m1 m2
        go_upto_region 6 with fail
        generalize wr.alloc (.cells #[.int .i64 x.index, .int .i64 x.term, .string x.data] 60) = w1 at NA bA bAn ⊢
        have WB1 := Wj.below bA
        have BB1 := bA
        obtain ⟨_, p1, p2, p3, _⟩ := WB1.cells.1
        have WBd : WldB w1.drew wb B b first _ vm := WB1
        have BBd := BB1.drew
        have WBA : WldB (w1.alloc (.cells #[.int .i64 0, .int .i64 0, .string ⟨#[]⟩] 60)).drew wb B b first _ vm := WB1.below (((Below.refl _ w1).alloc (Nat.le_refl _) _).drew)
        have BBA : Below wr.heap.size wr (w1.alloc (.cells #[.int .i64 0, .int .i64 0, .string ⟨#[]⟩] 60)).drew := (BB1.alloc BB1.size _).drew
        have v1 : ¬ wb = w1.heap.size := Nat.ne_of_lt WB1.lt
        have v2 : ¬ w1.heap.size = wb := Nat.ne_of_gt WB1.lt
        clear q1 q2 q3 y0 y1 y2
        go_cut [5, 6] (RdRel n E b B bt bd 19 (k + j) 3 8 first xs D wr w1 (x, 1))
        case first =>
          go_region_held3 (fun w' => w'.cell? ⟨wb, 1, none⟩ = some (.pointer (some ⟨b, 0, none⟩)) ∧ w'.cell? ⟨wb, 2, none⟩ = some (.int .i64 first)) (first | (with_reducible assumption) | (refine ⟨?_, ?_⟩ <;> with_reducible assumption) | go_keep)
            ((go_at_call 24; refine (HRD.out _ ?hBa).mono ?_; (case hBa => first | (with_reducible exact BBA) | (with_reducible exact BBd)); rintro e w3 ⟨rfl, X3, hb3, hk3⟩; (first
          | (have WB3 := (by with_reducible exact WBA.keep hk3 (HMD.out _ _)); have N3 := rd_box BB1.size hk3; obtain ⟨⟨d0, d1, d2⟩, k0, k1, k2⟩ := N3.cells; obtain ⟨_, z1, z2, z3, _⟩ := WB3.cells.1)
          | (have WB3 := (by with_reducible exact WBd.keep hk3 (HMD.out _ _)); obtain ⟨_, z1, z2, z3, _⟩ := WB3.cells.1; have v4 : ¬ wb = w3.heap.size := Nat.ne_of_lt WB3.lt; have v5 : ¬ w3.heap.size = wb := Nat.ne_of_gt WB3.lt))))
          all_goals (go_wp2_with fail; go_meet)
          all_goals first
            | (exact rd_endB (x, 1) Xj BB1.size hnj X3 hb3 hk3)
            | (exact rd_endA (x, 1) Xj BB1.size hnj X3 hb3 hk3)
        case rest =>
          obtain ⟨g1, rfl, rfl, N1, X1, B1, K1⟩ := hcut
          rename_i wc
          have N2 := NA.keep K1 (Or.inr ⟨Nat.le_refl _, NA.lt⟩)
          have WB4 := WB1.keep K1 (HMD.out _ _)
          have X1d : Lw n E wc.drew b B bt bd 19 3 8 first xs (k + j + 1) D := X1.below (Below.refl _ wc).drew
          obtain ⟨_, z1, z2, z3, _⟩ := WB4.cells.1
          obtain ⟨⟨d0, d1, d2⟩, _⟩ := N1.cells
          obtain ⟨⟨g0, g1', g2⟩, _⟩ := N2.cells
          clear WBd BBd WBA BBA v1 v2 p1 p2 p3 HRD WB1 BB1 NA
          go_wp2_with fail
          go_region_held3 (fun w' => w'.cell? ⟨wb, 1, none⟩ = some (.pointer (some ⟨b, 0, none⟩)) ∧ w'.cell? ⟨wb, 2, none⟩ = some (.int .i64 first) ∧ w'.cell? ⟨g1, 0, none⟩ = some (.int .i64 x.index) ∧ w'.cell? ⟨g1, 1, none⟩ = some (.int .i64 x.term) ∧ w'.cell? ⟨g1, 2, none⟩ = some (.string x.data) ∧ w'.cell? ⟨wr.heap.size, 0, none⟩ = some (.int .i64 x.index) ∧ w'.cell? ⟨wr.heap.size, 1, none⟩ = some (.int .i64 x.term) ∧ w'.cell? ⟨wr.heap.size, 2, none⟩ = some (.string x.data)) (first | (with_reducible assumption) | (refine ⟨?_, ?_, ?_, ?_, ?_, ?_, ?_, ?_⟩ <;> with_reducible assumption) | go_keep)
            ((go_at_call 54; refine (HTM.out _ X1d).mono ?_; rintro e w5 ⟨rfl, rfl⟩))
          go_wp2_with fail
          go_roundw
          case rel => exact ⟨j + 1, by omega, by go_num, X1d, (Bj.trans (bAn.trans B1)).drew, fun i hi => ((Kj.trans (Kept.of_below (fun i hi => Xj.dev.lt i hi.1) bA)).trans (K1.mono (fun i hi => Or.inl hi))) i hi⟩
          case measure => simp [intOf]; omega
      · obtain rfl : j = xs.length := by omega
        have HRD := Lib.hid (fun (W : World) (hb : Below wr.heap.size wr W) => lw_readW Xj (by decide) (first - 1) (en0, 0) (.inr ⟨.inl (by omega), rfl⟩) (by omega) hnj (fun y hy => HT.out y (Bj.trans hy)) (by omega) W hb)
        have e4 : IntKind.i64.wrap (first - 1) = first - 1 := IntWalk.i64_in _ (by omega)
        have BB1 := Below.refl wr.heap.size wr
        unfold lgetV enV en0 at HRD
        simp only at HRD
        go_upto_region 10 with fail
        have WBd : WldB wr.drew wb B b first _ vm := Wj
        have BBd := BB1.drew
        have WBA : WldB (wr.alloc (.cells #[.int .i64 0, .int .i64 0, .string ⟨#[]⟩] 60)).drew wb B b first _ vm := Wj.below (((Below.refl _ wr).alloc (Nat.le_refl _) _).drew)
        have BBA : Below wr.heap.size wr (wr.alloc (.cells #[.int .i64 0, .int .i64 0, .string ⟨#[]⟩] 60)).drew := (BB1.alloc BB1.size _).drew
        have v1 : ¬ wb = wr.heap.size := Nat.ne_of_lt Wj.lt
        have v2 : ¬ wr.heap.size = wb := Nat.ne_of_gt Wj.lt
        go_cut [7, 8] (RdRel n E b B bt bd 19 (k + xs.length) 3 8 first xs D wr wr (en0, 0))
        case first =>
          go_region_held3 (fun w' => w'.cell? ⟨wb, 1, none⟩ = some (.pointer (some ⟨b, 0, none⟩)) ∧ w'.cell? ⟨wb, 2, none⟩ = some (.int .i64 first)) (first | (with_reducible assumption) | (refine ⟨?_, ?_⟩ <;> with_reducible assumption) | go_keep)
            ((go_at_call 24; refine (HRD.out _ ?hBa).mono ?_; (case hBa => first | (with_reducible exact BBA) | (with_reducible exact BBd)); rintro e w3 ⟨rfl, X3, hb3, hk3⟩; (first
          | (have WB3 := (by with_reducible exact WBA.keep hk3 (HMD.out _ _)); have N3 := rd_box BB1.size hk3; obtain ⟨⟨d0, d1, d2⟩, k0, k1, k2⟩ := N3.cells; obtain ⟨_, z1, z2, z3, _⟩ := WB3.cells.1)
          | (have WB3 := (by with_reducible exact WBd.keep hk3 (HMD.out _ _)); obtain ⟨_, z1, z2, z3, _⟩ := WB3.cells.1; have v4 : ¬ wb = w3.heap.size := Nat.ne_of_lt WB3.lt; have v5 : ¬ w3.heap.size = wb := Nat.ne_of_gt WB3.lt))))
          all_goals (go_wp2_with fail; go_meet)
          all_goals first
            | (exact rd_endB (en0, 0) Xj BB1.size hnj X3 hb3 hk3)
            | (exact rd_endA (en0, 0) Xj BB1.size hnj X3 hb3 hk3)
        case rest =>
          obtain ⟨g1, rfl, rfl, Nz1, X1, B1, K1⟩ := hcut
          rename_i wc
          have WB4 := Wj.keep K1 (HMD.out _ _)
          obtain ⟨_, z1, z2, z3, _⟩ := WB4.cells.1
          have B5 := Bj.trans B1
          have K5 := Kj.trans (K1.mono (fun i hi => Or.inl hi))
          have hnc : n ≤ wc.heap.size := Nat.le_trans hn B5.size
          have HRE := Lib.hid (fun (W : World) (hb : Below wc.heap.size wc W) => lw_readW X1 (by decide) (first + (xs.length : Int)) (en0, 0) (.inr ⟨.inr (by omega), rfl⟩) (by omega) hnc (fun y hy => HT.out y (B5.trans hy)) (by omega) W hb)
          have BB2 := Below.refl wc.heap.size wc
          unfold lgetV enV en0 at HRE
          simp only at HRE
          clear WBd BBd WBA BBA v1 v2 HRD BB1 q1 q2 q3 Wj Xj K1 Kj
          have BB1 := BB2
          go_upto_region 11 with fail
          have WBd : WldB wc.drew wb B b first _ vm := WB4
          have BBd := BB1.drew
          have WBA : WldB (wc.alloc (.cells #[.int .i64 0, .int .i64 0, .string ⟨#[]⟩] 60)).drew wb B b first _ vm := WB4.below (((Below.refl _ wc).alloc (Nat.le_refl _) _).drew)
          have BBA : Below wc.heap.size wc (wc.alloc (.cells #[.int .i64 0, .int .i64 0, .string ⟨#[]⟩] 60)).drew := (BB1.alloc BB1.size _).drew
          have v1 : ¬ wb = wc.heap.size := Nat.ne_of_lt WB4.lt
          have v2 : ¬ wc.heap.size = wb := Nat.ne_of_gt WB4.lt
          go_cut [9, 10] (RdRel n E b B bt bd 19 (k + xs.length + 1) 3 8 first xs D wc wc (en0, 0))
          case first =>
            go_region_held3 (fun w' => w'.cell? ⟨wb, 1, none⟩ = some (.pointer (some ⟨b, 0, none⟩)) ∧ w'.cell? ⟨wb, 2, none⟩ = some (.int .i64 first) ∧ w'.cell? ⟨wb, 3, none⟩ = some (.slice a xs.length cap)) (first | (with_reducible assumption) | (refine ⟨?_, ?_, ?_⟩ <;> with_reducible assumption) | go_keep)
              ((go_at_call 24; refine (HRE.out _ ?hBa).mono ?_; (case hBa => first | (with_reducible exact BBA) | (with_reducible exact BBd)); rintro e w3 ⟨rfl, X3, hb3, hk3⟩; (first
          | (have WB3 := (by with_reducible exact WBA.keep hk3 (HMD.out _ _)); have N3 := rd_box BB1.size hk3; obtain ⟨⟨d0, d1, d2⟩, k0, k1, k2⟩ := N3.cells; obtain ⟨_, z1, z2, z3, _⟩ := WB3.cells.1)
          | (have WB3 := (by with_reducible exact WBd.keep hk3 (HMD.out _ _)); obtain ⟨_, z1, z2, z3, _⟩ := WB3.cells.1; have v4 : ¬ wb = w3.heap.size := Nat.ne_of_lt WB3.lt; have v5 : ¬ w3.heap.size = wb := Nat.ne_of_gt WB3.lt))))
            all_goals (go_wp2_with fail; go_meet)
            all_goals first
              | (exact rd_endB (en0, 0) X1 BB1.size hnc X3 hb3 hk3)
              | (exact rd_endA (en0, 0) X1 BB1.size hnc X3 hb3 hk3)
          case rest =>
            obtain ⟨g2, rfl, rfl, Nz2, X2, B2, K2⟩ := hcut
            have WB5 := WB4.keep K2 (HMD.out _ _)
            have X2d := X2.below (Below.refl _ _).drew
            have HTM := Lib.hid (lw_term X2d (first + (xs.length : Int)) 0 (.inr ⟨.inr (by omega), rfl⟩) ⟨by omega, by omega⟩)
            obtain ⟨_, u1, u2, u3, _⟩ := WB5.cells.1
            clear WBd BBd WBA BBA v1 v2 HRE BB1 BB2 z1 z2 z3 WB4
            go_wp2_with fail
            go_region_held3 (fun w' => w'.cell? ⟨wb, 1, none⟩ = some (.pointer (some ⟨b, 0, none⟩)) ∧ w'.cell? ⟨wb, 2, none⟩ = some (.int .i64 first) ∧ w'.cell? ⟨wb, 3, none⟩ = some (.slice a xs.length cap)) (first | (with_reducible assumption) | (refine ⟨?_, ?_, ?_⟩ <;> with_reducible assumption) | go_keep)
              ((go_at_call 54; refine HTM.out.mono ?_; rintro e w5 ⟨rfl, rfl⟩))
            go_wp2_with fail
            go_ret
            exact ⟨rfl, X2d, (B5.trans B2).drew, fun i hi => (K5.trans (K2.mono (fun i hi => Or.inl hi))) i hi⟩
end Go.Proofs.YtigebaaldikeaaaDoor
