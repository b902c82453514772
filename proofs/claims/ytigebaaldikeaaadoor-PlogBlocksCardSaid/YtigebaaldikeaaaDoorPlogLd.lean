/- Records put at a slice's end. No conditions beyond those in each statement. plog's store: entries' blocks, then marks' blocks. No conditions beyond those in each statement. plog's Append. No conditions beyond those in each statement. plog's load. No conditions beyond those in each statement. -/
import Derived.Test.YtigebaaldikeaaaDoorPlogGet
import Derived.Deep.AppendLies
namespace Go.Proofs.YtigebaaldikeaaaDoor
section
open Go.RowKit
set_option linter.unusedVariables false
set_option maxRecDepth 100000

def recCells : List Rc → List Value
  | [] => []
  | r :: l => .int .i64 r.kind :: .int .i64 r.index :: .int .i64 r.term :: .string r.data :: recCells l
theorem recCells_append (l m : List Rc) : recCells (l ++ m) = recCells l ++ recCells m := by
  induction l with
  | nil => rfl
  | cons r l ih => simp [recCells, ih]
theorem recCells_length (l : List Rc) : (recCells l).length = l.length * 4 := by
  induction l with
  | nil => rfl
  | cons r l ih => simp [recCells, ih]; omega
theorem recCells_at : ∀ (l : List Rc) (j : Nat) (r : Rc), l[j]? = some r → (recCells l)[j * 4]? = some (.int .i64 r.kind) ∧ (recCells l)[j * 4 + 1]? = some (.int .i64 r.index) ∧ (recCells l)[j * 4 + 2]? = some (.int .i64 r.term) ∧ (recCells l)[j * 4 + 3]? = some (.string r.data)
  | [], j, r, h => by simp at h
  | x :: l, 0, r, h => by
    obtain rfl : x = r := by simpa using h
    simp [recCells]
  | x :: l, j + 1, r, h => by
    have := recCells_at l j r (by simpa using h)
    rw [show (j + 1) * 4 = j * 4 + 4 by omega, show j * 4 + 4 + 1 = (j * 4 + 1) + 4 by omega, show j * 4 + 4 + 2 = (j * 4 + 2) + 4 by omega, show j * 4 + 4 + 3 = (j * 4 + 3) + 4 by omega]
    simpa [recCells] using this
theorem und_recs : Tryd.prog.underlying 106 = some (.slice 72) := by kernel_rfl
theorem info_rec : (Tryd.prog.info? 72).map (fun i => (i.zero, i.size, i.bytes)) = some (some (.agg #[.int .i64 0, .int .i64 0, .int .i64 0, .string ⟨#[]⟩]), 4, 40) := by kernel_rfl
/-- A slice of the call's own, from block base on, that holds these records. -/
def RowR (w : World) (base : Nat) (v : Value) (rs : List Rc) : Prop := w.ownsRow base 72 4 v rs.length (recCells rs)
theorem RowR.nil (w : World) (base : Nat) : RowR w base (.slice none 0 0) [] := ⟨rfl, .inl ⟨rfl, rfl⟩⟩
theorem RowR.keep {w w' : World} {base : Nat} {v : Value} {rs : List Rc} (h : RowR w base v rs) (hk : ∀ k, v.ownBlock = some k → w'.heap[k]? = w.heap[k]?) : RowR w' base v rs := ownsRow_same h hk
theorem RowR.lt {w : World} {base : Nat} {v : Value} {rs : List Rc} (h : RowR w base v rs) {k : Nat} (hk : v.ownBlock = some k) : k < w.heap.size ∧ base ≤ k := by
  refine ⟨by obtain ⟨cur, hc⟩ := ownsRow_block h hk; exact lt_of_block hc, ?_⟩
  rcases h.2 with ⟨rfl, _⟩ | ⟨g, cap, cur, rfl, hb, _⟩
  · cases hk
  · obtain rfl : g = k := by simpa [Value.ownBlock] using hk
    exact hb
theorem RowR.below {w w' : World} {base : Nat} {v : Value} {rs : List Rc} (h : RowR w base v rs) (hb : Below w.heap.size w w') : RowR w' base v rs := h.keep (fun k hk => hb.block k (h.lt hk).1)
theorem RowR.recs {w : World} {base : Nat} {v : Value} {rs : List Rc} (h : RowR w base v rs) (hl : rs.length ≤ 100000) : RecS (fun g => base ≤ g ∧ g < w.heap.size) w v rs := by
  rcases h.2 with ⟨rfl, h0⟩ | ⟨g, cap, cur, rfl, hb, hg, hn, hc, hs, ht⟩
  · exact ⟨none, 0, by rw [h0], hl, .inl h0⟩
  · refine ⟨_, cap, rfl, hl, .inr ⟨g, rfl, ⟨hb, lt_of_block hg⟩, lt_of_block hg, fun j r hj => ?_⟩⟩
    obtain ⟨c0, c1, c2, c3⟩ := recCells_at rs j r hj
    have hjl : j < rs.length := (List.getElem?_eq_some_iff.1 hj).1
    have hat : ∀ i u, i < rs.length * 4 → (recCells rs)[i]? = some u → w.cell? ⟨g, i, none⟩ = some u := by
      intro i u hi hu
      rw [← ht, List.getElem?_take_of_lt hi] at hu
      exact cell_of hg (by simpa using hu)
    exact ⟨hat _ _ (by omega) c0, hat _ _ (by omega) c1, hat _ _ (by omega) c2, hat _ _ (by omega) c3⟩
theorem wpList_append_rec (w : World) {ops : Array Oper} {rest : List Oper} {o : Oper} {a : Act} {Q : Exit → Act → World → Prop} (hgd : o.guard = none) (s x : Operand)
    (ho : o.op = .call { callee := .builtin .append, args := #[s, x], argTypes := #[106, 106] }) (base : Nat) (v : Value) (rs : List Rc) (hs : a.eval s = v) (hown : RowR w base v rs) (H : Nat) (r : Rc)
    (hx : a.eval x = .slice (some ⟨H, 0, none⟩) 1 1) (hc : RecB w H r) (hl : rs.length ≤ 10000) (hb : base ≤ w.heap.size)
    (h : ∀ g cap w', RowR w' base (.slice (some ⟨g, 0, none⟩) (rs.length + 1) cap) (rs ++ [r]) → w.grownBy w' v.ownBlock → (v.ownBlock = some g ∨ g = w.heap.size) → wpList Tryd.prog ops Q rest (a.put o.dst (.slice (some ⟨g, 0, none⟩) (rs.length + 1) cap)) w') : wpList Tryd.prog ops Q (o :: rest) a w := by
  obtain ⟨i0, hi, hz0, hz1, hz2⟩ := info_parts info_rec
  refine wpList_append_lies w hgd s x _ ho base 72 i0 _ 4 40 und_recs hi hz0 hz1 hz2 rfl (by decide) v rs.length (recCells rs) hs hown ⟨H, 0, none⟩ 1 1 (recCells [r]) hx rfl (World.news_of_block (cs := #[.int .i64 r.kind, .int .i64 r.index, .int .i64 r.term, .string r.data]) (t := 72) (fr := (0, 0)) hc) (by simp [recCells, Value.oneCell']) (by decide) (by unfold maxLen; omega) (by omega) hb w.heap.size rfl ?_
  intro g cap w' h1 h2 h3 h4
  refine h g cap w' ?_ h2 h3
  unfold RowR
  rw [recCells_append, List.length_append]
  exact h1
end
section
open Go.RowKit
set_option linter.unusedVariables false
set_option maxRecDepth 100000

/-- A slice of entries that can be read; its row is a block of E. -/
def EnS (E : Nat → Prop) (w : World) (v : Value) (xs : List En) : Prop :=
  ∃ a cap, v = .slice a xs.length cap ∧ xs.length ≤ 10000 ∧ (xs.length = 0 ∨ ∃ g, a = some ⟨g, 0, none⟩ ∧ E g ∧ g < w.heap.size ∧
    ∀ j x, xs[j]? = some x → w.cell? ⟨g, j * 3, none⟩ = some (.int .i64 x.index) ∧ w.cell? ⟨g, j * 3 + 1, none⟩ = some (.int .i64 x.term) ∧ w.cell? ⟨g, j * 3 + 2, none⟩ = some (.string x.data))
theorem EnS.below {E : Nat → Prop} {w w' : World} {v : Value} {xs : List En} (h : EnS E w v xs) (k : Below w.heap.size w w') : EnS E w' v xs := by
  obtain ⟨a, cap, hv, hn, h⟩ := h
  refine ⟨a, cap, hv, hn, h.imp id ?_⟩
  rintro ⟨g, ha, hg, hl, hc⟩
  have e := k.block g hl
  refine ⟨g, ha, hg, Nat.lt_of_lt_of_le hl k.size, fun j x hj => ?_⟩
  rw [cell_kept e, cell_kept e, cell_kept e]
  exact hc j x hj
theorem EnS.keep {E F : Nat → Prop} {w w' : World} {v : Value} {xs : List En} (h : EnS E w v xs) (k : Kept F w w') (hE : ∀ j, E j → F j) (hs : w.heap.size ≤ w'.heap.size) : EnS E w' v xs := by
  obtain ⟨a, cap, hv, hn, h⟩ := h
  refine ⟨a, cap, hv, hn, h.imp id ?_⟩
  rintro ⟨g, ha, hg, hl, hc⟩
  have e := k g (hE g hg)
  refine ⟨g, ha, hg, Nat.lt_of_lt_of_le hl hs, fun j x hj => ?_⟩
  rw [cell_kept e, cell_kept e, cell_kept e]
  exact hc j x hj
/-- What store does: refused if the last entry cannot be a block; else the entries, then the marks. -/
noncomputable def Dv.store (D : Dv) (L : Lg) (xs : List En) : Int × Dv :=
  if (D.wr L (xs.map entR)).1 = 0 then (D.wr L (xs.map entR)).2.wr L (xs.map fun x => markR x.index x.term) else D.wr L (xs.map entR)
theorem DevW.growAll {n : Nat} {E : Nat → Prop} {w x : World} {B : Nat} {D : Dv} (h : DevW n E w B D) (hb : Below w.heap.size w x) : DevW n (fun k => E k ∨ (w.heap.size ≤ k ∧ k < x.heap.size)) x B D := by
  obtain ⟨S, h, hS, hE⟩ := h
  refine ⟨S, h.below hb, fun k hk => ⟨(hS k hk).1, fun e => e.elim (hS k hk).2 (fun e => ?_)⟩, fun k hk => ?_⟩
  · have := h.lt k hk; omega
  · rcases hk with hk | hk
    · have := hE k hk; have := hb.size; omega
    · exact hk.2
def mkR (x : En) : Rc := markR x.index x.term
theorem ent_new (w : World) (x : En) : RecB (w.alloc (.cells #[.int .i64 2, .int .i64 x.index, .int .i64 x.term, .string x.data] 72)) w.heap.size (entR x) := RecB.new w (entR x)
theorem mark_new (w : World) (x : En) : RecB (w.alloc (.cells #[.int .i64 3, .int .i64 x.index, .int .i64 x.term, .string ⟨#[]⟩] 72)) w.heap.size (mkR x) := RecB.new w (mkR x)
theorem ents_size (rs : List En) : (rs.map entR).length = rs.length := by simp
set_option maxHeartbeats 4000000 in
theorem pstore_any {n : Nat} {E : Nat → Prop} {w : World} {B : Nat} {D : Dv} {b bt bd : Nat} {L : Lg} (v : Value) (xs : List En) (z : En) (hW : DevW n E w B D) (hL : LogB w b B bt bd L) (hE : E b) (hv : EnS E w v xs) (hlast : xs.getLast? = some z) (hn : n ≤ w.heap.size)
    (hT : ∀ x, Below n w x → Tabs x) (hw : D.writes ≤ 1072000000) (hf : L.Fit) (hi : ∀ x ∈ xs, 0 ≤ x.index) (V : Int × Dv) (hV : V = if (entR z).put.2 = 0 then D.store L xs else ((entR z).put.2, D)) :
    Calls Tryd.prog 66 #[.pointer (some ⟨b, 0, none⟩), v] w fun e w' => e = .returned (.int .i64 V.1) ∧ DevW n E w' B V.2 ∧ Below n w w' ∧ Kept E w w' := by
  have HT := Lib.hid hT
  have HF := Lib.hid hf
  have HI := Lib.hid hi
  have HV := Lib.hid hV
  have HWR := Lib.hid hw
  have HLA := Lib.hid hlast
  have hne : xs ≠ [] := fun e => by rw [e] at hlast; cases hlast
  have HNE := Lib.hid hne
  obtain ⟨a, cap, rfl, hlen, hg⟩ := id hv
  have hpos : 0 < xs.length := List.length_pos_iff.2 hne
  rcases hg with h0 | ⟨g, rfl, hEg, hgl, hcell⟩
  · omega
  have HC := Lib.hid hcell
  have HX0 := Lib.hid hW
  have HL0 := Lib.hid hL
  clear hT hf hi hV hw hlast hne hv hW hL hcell
  go_enter Tryd.func66, Tryd.ntmps66
  go_wp2_with fail
  go_loopw [5, 6, 14] (fun v5 v6 i wr => ∃ k : Nat, k ≤ xs.length ∧ i = .int .i64 k ∧ RowR wr w.heap.size v5 ((xs.take k).map entR) ∧ RowR wr w.heap.size v6 ((xs.take k).map mkR) ∧ (∀ j, v5.ownBlock = some j → v6.ownBlock ≠ some j) ∧ Below w.heap.size w wr) (fun _ _ i _ => xs.length - (intOf i).toNat)
  case atStart => exact ⟨0, by omega, rfl, RowR.nil _ _, RowR.nil _ _, (fun j h => by cases h), Below.refl _ _⟩
  case round =>
    obtain ⟨k, hk, rfl, R5, R6, hdis, Bk⟩ := hrel
    by_cases hlt : k < xs.length
    · have hlt' : (k : Int) < (xs.length : Int) := by omega
      have hk0 : (0 : Int) ≤ (k : Int) := by omega
      obtain ⟨x, hx⟩ : ∃ x, xs[k]? = some x := ⟨xs[k], List.getElem?_eq_getElem hlt⟩
      have htk : xs.take (k + 1) = xs.take k ++ [x] := by rw [List.take_add_one, hx]; rfl
      have hl5 : ((xs.take k).map entR).length ≤ 10000 := by simp; omega
      have hl6 : ((xs.take k).map mkR).length ≤ 10000 := by simp; omega
      have hs5 : ((xs.take k).map entR).length = k := by simp; omega
      have hs6 : ((xs.take k).map mkR).length = k := by simp; omega
      have HM5 : Hid ((xs.take k).map entR ++ [entR x] = (xs.take (k + 1)).map entR) := by show _ = _; rw [htk]; simp
      have HM6 : Hid ((xs.take k).map mkR ++ [mkR x] = (xs.take (k + 1)).map mkR) := by show _ = _; rw [htk]; simp
      obtain ⟨c0', c1', c2'⟩ := HC.out k x hx
      have c0 : wr.cell? ⟨g, k * 3, none⟩ = some (.int .i64 x.index) := by rw [cell_kept (Bk.block g hgl)]; exact c0'
      have c1 : wr.cell? ⟨g, k * 3 + 1, none⟩ = some (.int .i64 x.term) := by rw [cell_kept (Bk.block g hgl)]; exact c1'
      have c2 : wr.cell? ⟨g, k * 3 + 2, none⟩ = some (.string x.data) := by rw [cell_kept (Bk.block g hgl)]; exact c2'
      have HRO := Lib.hid (fun (W : World) => prec_any x W)
      have HMO := Lib.hid (fun (W : World) => pmark_any x.index x.term W)
      have bA := (Below.refl wr.heap.size wr).alloc (Nat.le_refl _) (.cells #[.int .i64 x.index, .int .i64 x.term, .string x.data] 60)
      have nA := EnB.new wr x
      have hlow5 := fun j (hj : u5.ownBlock = some j) => R5.lt hj
      have hlow6 := fun j (hj : u6.ownBlock = some j) => R6.lt hj
      clear htk hx c0' c1' c2'
      unfold enV recV entR at HRO
      unfold recV markR at HMO
      simp only at HRO HMO
      go_wp2_with fail
      refine (HRO.out _).mono ?_
      rintro e w1 ⟨rfl, hb1⟩
      have N1 := nA.below hb1
      have BB1 : Below wr.heap.size wr w1 := bA.trans (hb1.mono bA.size)
      have bR := (Below.refl w1.heap.size w1).alloc (Nat.le_refl _) (.cells #[.int .i64 2, .int .i64 x.index, .int .i64 x.term, .string x.data] 72)
      have BB2 := BB1.trans (bR.mono BB1.size)
      have Q5 := R5.below BB2
      have Q6 := R6.below BB2
      have N2 := N1.below bR
      have hH := ent_new w1 x
      have hNb : w.heap.size ≤ (w1.alloc (.cells #[.int .i64 2, .int .i64 x.index, .int .i64 x.term, .string x.data] 72)).heap.size := Nat.le_trans Bk.size BB2.size
      have hsz2 : wr.heap.size ≤ (w1.alloc (.cells #[.int .i64 2, .int .i64 x.index, .int .i64 x.term, .string x.data] 72)).heap.size := BB2.size
      have B2 := Bk.trans (BB2.mono Bk.size)
      have hnb5 : some wr.heap.size ≠ u5.ownBlock := fun e => Nat.lt_irrefl _ (hlow5 _ e.symm).1
      have hnb6 : some wr.heap.size ≠ u6.ownBlock := fun e => Nat.lt_irrefl _ (hlow6 _ e.symm).1
      clear hb1 bA nA bR BB1 N1 R5 R6 c0 c1 c2
      go_wp2_with (at_builtin; refine wpList_append_rec _ rfl _ _ rfl w.heap.size u5 _ rfl Q5 w1.heap.size (entR x) rfl hH hl5 hNb ?_; intro g5 cap5 w3 ho5 hg5 hat5; have N3 : EnB w3 wr.heap.size x := (hg5.block _ N2.lt hnb5).trans N2; obtain ⟨⟨d0, d1, d2⟩, hdf⟩ := N3.cells; clear hdf)
      refine (HMO.out _).mono ?_
      rintro e w4 ⟨rfl, hb4⟩
      have P6 : RowR w3 w.heap.size u6 ((xs.take k).map mkR) := Q6.keep (fun j hj => hg5.block j (Q6.lt hj).1 (fun e => hdis j e.symm hj))
      have B3 : Below w.heap.size w w3 := B2.grown hg5 hNb (fun j hj => (hlow5 j hj).2)
      have bM := (Below.refl w4.heap.size w4).alloc (Nat.le_refl _) (.cells #[.int .i64 3, .int .i64 x.index, .int .i64 x.term, .string ⟨#[]⟩] 72)
      have BB4 : Below w3.heap.size w3 (w4.alloc (.cells #[.int .i64 3, .int .i64 x.index, .int .i64 x.term, .string ⟨#[]⟩] 72)) := hb4.trans (bM.mono hb4.size)
      have Q6b := P6.below BB4
      have Q5b := ho5.below BB4
      have B4 := B3.trans (BB4.mono B3.size)
      have hH2 := mark_new w4 x
      have hNb2 : w.heap.size ≤ (w4.alloc (.cells #[.int .i64 3, .int .i64 x.index, .int .i64 x.term, .string ⟨#[]⟩] 72)).heap.size := B4.size
      have hd5 : ∀ j, u6.ownBlock = some j → j ≠ g5 := fun j hj e => by
        rcases hat5 with h | h
        · exact hdis g5 h (by rw [hj, e])
        · have := (hlow6 j hj).1
          omega
      clear hb4 bM N2 N3 d0 d1 d2 Q5 Q6 hH
      go_wp2_with (at_builtin; refine wpList_append_rec _ rfl _ _ rfl w.heap.size u6 _ rfl Q6b w4.heap.size (mkR x) rfl hH2 hl6 hNb2 ?_; intro g6 cap6 w5 ho6 hg6 hat6; go_frame)
      have hg5lt : g5 < (w4.alloc (.cells #[.int .i64 3, .int .i64 x.index, .int .i64 x.term, .string ⟨#[]⟩] 72)).heap.size := (Q5b.lt (k := g5) rfl).1
      have F5 : RowR w5 w.heap.size (.slice (some ⟨g5, 0, none⟩) (((xs.take k).map entR).length + 1) cap5) ((xs.take k).map entR ++ [entR x]) := Q5b.keep (fun j hj => by
        obtain rfl : g5 = j := by simpa [Value.ownBlock] using hj
        exact hg6.block g5 hg5lt (fun e => hd5 g5 e.symm rfl))
      have B5 : Below w.heap.size w w5 := B4.grown hg6 hNb2 (fun j hj => (hlow6 j hj).2)
      have hdis' : ∀ j, (Value.slice (some ⟨g5, 0, none⟩) (((xs.take k).map entR).length + 1) cap5).ownBlock = some j → (Value.slice (some ⟨g6, 0, none⟩) (((xs.take k).map mkR).length + 1) cap6).ownBlock ≠ some j := fun j h1 h2 => by
        obtain rfl : g5 = j := by simpa [Value.ownBlock] using h1
        obtain rfl : g6 = g5 := by simpa [Value.ownBlock] using h2
        rcases hat6 with h | h
        · exact hd5 g6 h rfl
        · omega
      rw [HM5.out, hs5] at F5
      rw [HM6.out] at ho6
      rw [hs5] at hdis'
      go_roundw
      case rel => exact ⟨k + 1, by omega, by go_num, F5, ho6, hdis', B5⟩
      case measure => simp [intOf]; omega
    · obtain rfl : k = xs.length := by omega
      rw [List.take_length] at R5 R6
      have hl5 : (xs.map entR).length = xs.length := by simp
      have hl6 : (xs.map mkR).length = xs.length := by simp
      obtain ⟨g5, cap5, hu5, _, _⟩ := World.ownsRow.form R5 (by rw [hl5]; exact hpos)
      subst hu5
      rw [hl5] at R5
      have S5 := R5.recs (by rw [hl5]; omega)
      have S6 := R6.recs (by rw [hl6]; omega)
      have X := HX0.out.growAll Bk
      have hE' : E b ∨ (w.heap.size ≤ b ∧ b < wr.heap.size) := .inl hE
      have L1 := HL0.out.below Bk
      have hlastc : ∃ a' cap', Value.slice (some ⟨g5, 0, none⟩) xs.length cap5 = .slice a' (xs.map entR).length cap' := ⟨_, _, by rw [hl5]⟩
      have hz : (xs.map entR)[xs.length - 1]? = some (entR z) := by
        have h := HLA.out
        rw [List.getLast?_eq_getElem?] at h
        rw [List.getElem?_map, h]
        rfl
      obtain ⟨a', cap', hsv, _, hrow⟩ := id S5
      rcases hrow with h0 | ⟨g5', hga, _, _, hcell⟩
      · omega
      obtain rfl : a' = some ⟨g5, 0, none⟩ := by injection hsv with h1 _ _; exact h1.symm
      obtain rfl : g5 = g5' := by injection hga with h1; injection h1
      obtain ⟨c0, c1, c2, c3⟩ := hcell _ _ hz
      have hmi : (0 : Int) ≤ (xs.length : Int) - 1 ∧ (xs.length : Int) - 1 < (xs.length : Int) := by omega
      have hnr : n ≤ wr.heap.size := Nat.le_trans hn Bk.size
      have HPT := Lib.hid (fun (W : World) (hb : Below wr.heap.size wr W) => put_any (entR z) W (HT.out _ ((Bk.mono hn).trans (hb.mono hnr))))
      have e1 : IntKind.i64.wrap ((xs.length : Int) - 1) = (xs.length : Int) - 1 := IntWalk.i64_in _ (by omega)
      have B0 : Below n w wr := Bk.mono hn
      have K0 : Kept E w wr := fun j hj => Bk.block j (HX0.out.lt j hj)
      have HMK : Hid (xs.map mkR = xs.map fun x => markR x.index x.term) := rfl
      have HI5 : Hid (∀ r ∈ xs.map entR, 0 ≤ r.index) := fun r hr => by obtain ⟨x, hx, rfl⟩ := List.mem_map.1 hr; exact HI.out x hx
      have HI6 : Hid (∀ r ∈ xs.map mkR, 0 ≤ r.index) := fun r hr => by obtain ⟨x, hx, rfl⟩ := List.mem_map.1 hr; exact HI.out x hx
      clear hz hsv hga hcell hlastc hdis R5 R6
      unfold recV at HPT
      go_wp2_with fail
      refine (HPT.out wr (Below.refl _ _)).mono ?_
      rintro e w1 ⟨rfl, hb1⟩
      have X1 := X.below hb1
      have S5b := (S5.below hb1).wide (F := fun j => E j ∨ (w.heap.size ≤ j ∧ j < wr.heap.size)) (fun j h => .inr h)
      have S6b := (S6.below hb1).wide (F := fun j => E j ∨ (w.heap.size ≤ j ∧ j < wr.heap.size)) (fun j h => .inr h)
      have L1b := L1.below hb1
      have B1 := B0.trans (hb1.mono hnr)
      have K1 := K0.trans (Kept.of_below (fun j hj => X.lt j (.inl hj)) hb1)
      have hn1 := Nat.le_trans hn B1.size
      clear c0 c1 c2 c3 hb1 X S5 S6 L1 B0 K0 HPT
      by_cases hp : (entR z).put.2 = 0
      · have ep : ((entR z).put.2 == 0) = true := by simpa using hp
        have HV2 : Hid (V = D.store L xs) := by show V = _; rw [HV.out, if_pos hp]
        have HW1 := Lib.hid (pwrite_any _ (xs.map entR) X1 L1b hE' S5b hn1 (fun x hx => HT.out x (B1.trans hx)) (by have := HWR.out; omega) HF.out HI5.out)
        have HWW := Lib.hid (wr_writes L (xs.map entR) D)
        have HV3 : Hid (V = if (D.wr L (xs.map entR)).1 = 0 then (D.wr L (xs.map entR)).2.wr L (xs.map mkR) else D.wr L (xs.map entR)) := HV2.out
        generalize D.wr L (xs.map entR) = Y at HW1 HWW HV3
        clear HV2 hp
        go_wp2_with fail
        refine HW1.out.mono ?_
        rintro e w2 ⟨rfl, X2, hb2, hk2⟩
        have L2 := L1b.keep hk2 hE'
        have S6c := S6b.keep hk2 (fun j h => h) hb2.size
        have B2 := B1.trans hb2
        have K2 := K1.trans (hk2.mono (fun j hj => .inl hj))
        have hn2 := Nat.le_trans hn B2.size
        clear X1 L1b S5b S6b B1 K1 hb2 hk2 HW1
        by_cases hy : Y.1 = 0
        · have ey : (Y.1 == 0) = true := by simpa using hy
          have HV4 : Hid (V = Y.2.wr L (xs.map mkR)) := by show V = _; rw [HV3.out, if_pos hy]
          have HW2 := Lib.hid (pwrite_any _ (xs.map mkR) X2 L2 hE' S6c hn2 (fun x hx => HT.out x (B2.trans hx)) (by have := HWR.out; have := HWW.out; simp at this; omega) HF.out HI6.out)
          rw [← HV4.out] at HW2
          clear hy
          go_wp2_with fail
          refine HW2.out.mono ?_
          rintro e w3 ⟨rfl, X3, hb3, hk3⟩
          go_wp2_with fail
          go_ret
          exact ⟨rfl, X3.less (fun j hj => .inl hj), B2.trans hb3, K2.trans (hk3.mono (fun j hj => .inl hj))⟩
        · have ey : (Y.1 == 0) = false := by simpa using hy
          have HV4 : Hid (V = Y) := by show V = _; rw [HV3.out, if_neg hy]
          clear hy
          go_wp2_with fail
          go_ret
          exact ⟨by rw [HV4.out]; rfl, by rw [HV4.out]; exact X2.less (fun j hj => .inl hj), B2, K2⟩
      · have ep : ((entR z).put.2 == 0) = false := by simpa using hp
        have HV2 : Hid (V = ((entR z).put.2, D)) := by show V = _; rw [HV.out, if_neg hp]
        clear hp
        go_wp2_with fail
        go_ret
        exact ⟨by rw [HV2.out]; rfl, by rw [HV2.out]; exact X1.less (fun j hj => .inl hj), B1, K1⟩
end
section
open Go.RowKit
set_option linter.unusedVariables false
set_option maxRecDepth 100000

/-- May these entries be put, the first one with index f? -/
def chkF : Int → List En → Int
  | _, [] => 0
  | f, x :: l => if x.index ≠ f then 8 else if x.ok = false then 1 else chkF (f + 1) l
theorem chk_gap {f : Int} {x : En} {l : List En} (h : x.index ≠ f) : chkF f (x :: l) = 8 := by show (if _ then _ else _) = _; rw [if_pos h]
theorem chk_bad {f : Int} {x : En} {l : List En} (h : x.index = f) (h2 : x.ok = false) : chkF f (x :: l) = 1 := by show (if _ then _ else _) = _; rw [if_neg (by simp [h]), if_pos h2]
theorem chk_go {f : Int} {x : En} {l : List En} (h : x.index = f) (h2 : x.ok = true) : chkF f (x :: l) = chkF (f + 1) l := by show (if _ then _ else _) = _; rw [if_neg (by simp [h]), if_neg (by simp [h2])]
theorem chk_all : ∀ (l : List En) (f : Int), chkF f l = 0 → ∀ (j : Nat) (x : En), l[j]? = some x → x.index = f + (j : Int) ∧ x.ok = true
  | [], f, h, j, x, hx => by simp at hx
  | y :: l, f, h, j, x, hx => by
    by_cases h1 : y.index = f
    · cases h2 : y.ok with
      | false => rw [chk_bad h1 h2] at h; cases h
      | true =>
        rw [chk_go h1 h2] at h
        rcases j with _ | j
        · obtain rfl : y = x := by simpa using hx
          exact ⟨by simpa using h1, h2⟩
        · have := chk_all l (f + 1) h j x (by simpa using hx)
          exact ⟨by rw [this.1]; push_cast; omega, this.2⟩
    · rw [chk_gap h1] at h; cases h
noncomputable def Dv.stoV (D : Dv) (L : Lg) (xs : List En) : Int × Dv := match xs.getLast? with
  | none => (0, D)
  | some z => if (entR z).put.2 = 0 then D.store L xs else ((entR z).put.2, D)
noncomputable def Dv.app (D : Dv) (L : Lg) (xs : List En) : Int × Dv :=
  if L.size - L.count < (xs.length : Int) then (4, D) else if chkF (L.first + L.count) xs ≠ 0 then (chkF (L.first + L.count) xs, D) else D.stoV L xs
def addT (T : Int → Option Int) (xs : List En) : Int → Option Int := xs.foldl (fun T x => upd T x.index (some x.term)) T
theorem addT_snoc (T : Int → Option Int) (l : List En) (x : En) : addT T (l ++ [x]) = upd (addT T l) x.index (some x.term) := by unfold addT; rw [List.foldl_append]; rfl
theorem EnS.wide {E F : Nat → Prop} {w : World} {v : Value} {xs : List En} (h : EnS E w v xs) (hE : ∀ j, E j → F j) : EnS F w v xs := by
  obtain ⟨a, cap, hv, hn, h⟩ := h
  exact ⟨a, cap, hv, hn, h.imp id (fun ⟨g, ha, hg, r⟩ => ⟨g, ha, hE g hg, r⟩)⟩
set_option maxHeartbeats 4000000 in
theorem pappend_any {n : Nat} {E : Nat → Prop} {w : World} {b B bt bd k0 : Nat} {D : Dv} {L : Lg} {T : Int → Option Int} {S : Int → Bool} (v : Value) (xs : List En) (hW : LogW n E w b B bt bd D L k0 T S) (hv : EnS (But E b bt bd) w v xs) (hfx : ∀ x ∈ xs, x.Fits) (hn : n ≤ w.heap.size) (ht : ∀ x, Below n w x → Tabs x) (hw : D.writes ≤ 1072000000) (hf : L.Fit) (hk0 : k0 < 900000000)
    (V : Int × Dv) (hV : V = D.app L xs) (L' : Lg) (T' : Int → Option Int) (hL' : L' = if V.1 = 0 then { L with count := L.count + xs.length } else L) (hT' : T' = if V.1 = 0 then addT T xs else T) :
    Calls Tryd.prog 37 #[.pointer (some ⟨b, 0, none⟩), v] w fun e w' => e = .returned (.int .i64 V.1) ∧ LogW n E w' b B bt bd V.2 L' (k0 + xs.length) T' S ∧ Below n w w' ∧ Kept (But E b bt bd) w w' := by
  have h1 := hf.first
  have h2 := hf.count
  have h3 := hf.size
  have HT := Lib.hid ht
  have HF := Lib.hid hf
  have HFX := Lib.hid hfx
  have HV := Lib.hid hV
  have HLL := Lib.hid hL'
  have HTT := Lib.hid hT'
  obtain ⟨a, cap, rfl, hlen, hg⟩ := id hv
  have HES := Lib.hid hv
  have HR := Lib.hid (fun (W : World) (hb : Below w.heap.size w W) => proom_any (hW.log.below hb) (by omega) (by omega))
  have HSAME := Lib.hid (fun (x : World) (hb : Below w.heap.size w x) (hvv : V.2 = D) (hl : L' = L) (htt : T' = T) => show LogW n E x b B bt bd V.2 L' (k0 + xs.length) T' S ∧ Below n w x ∧ Kept (But E b bt bd) w x from ⟨by rw [hvv, hl, htt]; exact (hW.below hb).mono (Nat.le_add_right _ _), hb.mono hn, Kept.of_below (But.lt hW) hb⟩)
  clear ht hf hfx hV hL' hT' hv
  go_enter Tryd.func37, Tryd.ntmps37
  go_wp2_with fail
  refine (HR.out w (Below.refl _ _)).mono ?_
  rintro e w1 ⟨rfl, hb1⟩
  by_cases hroom : L.size - L.count < (xs.length : Int)
  · have er : decide (L.size - L.count < (xs.length : Int)) = true := by simpa using hroom
    have HVE : Hid (V = (4, D)) := by show V = _; rw [HV.out]; unfold Dv.app; rw [if_pos hroom]
    have HLE : Hid (L' = L) := by show L' = L; rw [HLL.out, HVE.out, if_neg (show ¬ ((4 : Int) = 0) by decide)]
    have HTE : Hid (T' = T) := by show T' = T; rw [HTT.out, HVE.out, if_neg (show ¬ ((4 : Int) = 0) by decide)]
    clear hroom
    go_wp2_with fail
    go_ret
    exact ⟨by rw [HVE.out]; rfl, HSAME.out w1 hb1 (by rw [HVE.out]) HLE.out HTE.out⟩
  · have er : decide (L.size - L.count < (xs.length : Int)) = false := by simpa using hroom
    obtain ⟨f0, hf0⟩ : ∃ f0, f0 = L.first + L.count := ⟨_, rfl⟩
    have HV1 : Hid (V = if chkF f0 xs ≠ 0 then (chkF f0 xs, D) else D.stoV L xs) := by show V = _; rw [HV.out, hf0]; unfold Dv.app; rw [if_neg hroom]
    have hxl : (xs.length : Int) ≤ 4096 := by omega
    clear hroom
    go_wp2_with fail
    go_loopw [19] (fun i wr => ∃ k : Nat, k ≤ xs.length ∧ i = .int .i64 k ∧ Below w.heap.size w wr ∧ Hid (chkF f0 xs = chkF (f0 + (k : Int)) (xs.drop k))) (fun i _ => xs.length - (intOf i).toNat)
    case atStart => exact ⟨0, by omega, rfl, hb1, by show _ = _; simp⟩
    case round =>
      obtain ⟨k, hk, rfl, Bk, HCK⟩ := hrel
      clear hb1
      by_cases hlt : k < xs.length
      · have hlt' : (k : Int) < (xs.length : Int) := by omega
        have hkk : (0 : Int) ≤ (k : Int) := by omega
        rcases hg with h0 | ⟨g, rfl, hEg, hgl, hcell⟩
        · omega
        · obtain ⟨x, hx⟩ : ∃ x, xs[k]? = some x := ⟨xs[k], List.getElem?_eq_getElem hlt⟩
          have hdrop : xs.drop k = x :: xs.drop (k + 1) := by rw [List.drop_eq_getElem_cons hlt]; congr 1; rw [List.getElem?_eq_getElem hlt] at hx; exact Option.some.inj hx
          have HCK2 : Hid (chkF f0 xs = chkF (f0 + (k : Int)) (x :: xs.drop (k + 1))) := by show _ = _; rw [HCK.out, hdrop]
          obtain ⟨c0', c1', c2'⟩ := hcell k x hx
          have c0 : wr.cell? ⟨g, k * 3, none⟩ = some (.int .i64 x.index) := by rw [cell_kept (Bk.block g hgl)]; exact c0'
          have c1 : wr.cell? ⟨g, k * 3 + 1, none⟩ = some (.int .i64 x.term) := by rw [cell_kept (Bk.block g hgl)]; exact c1'
          have c2 : wr.cell? ⟨g, k * 3 + 2, none⟩ = some (.string x.data) := by rw [cell_kept (Bk.block g hgl)]; exact c2'
          have HVL := Lib.hid (fun (W : World) => pvalid_any x W (HFX.out x (List.mem_of_getElem? hx)).data)
          have bA := ((Below.refl wr.heap.size wr).alloc (Nat.le_refl _) (.cells #[.int .i64 x.index, .int .i64 x.term, .string x.data] 60)).drew
          have nA : EnB (wr.alloc (.cells #[.int .i64 x.index, .int .i64 x.term, .string x.data] 60)).drew wr.heap.size x := EnB.new wr x
          have BA : Below w.heap.size w (wr.alloc (.cells #[.int .i64 x.index, .int .i64 x.term, .string x.data] 60)).drew := Bk.trans (bA.mono Bk.size)
          obtain ⟨⟨_, _, _, p3, p4, _, _⟩, _⟩ := (hW.log.below BA).cells
          obtain ⟨⟨n0, n1, n2⟩, _⟩ := nA.cells
          have e1 : IntKind.i64.wrap (L.first + L.count) = L.first + L.count := IntWalk.i64_in _ (by omega)
          have e2 : IntKind.i64.wrap (L.first + L.count + (k : Int)) = L.first + L.count + (k : Int) := IntWalk.i64_in _ (by omega)
          clear hdrop hx c0' c1' c2' HCK
          unfold enV at HVL
          go_wp2_with fail
          go_region_held3 (fun w' => w'.cell? ⟨b, 3, none⟩ = some (.int .i64 L.first) ∧ w'.cell? ⟨b, 4, none⟩ = some (.int .i64 L.count) ∧ w'.cell? ⟨wr.heap.size, 0, none⟩ = some (.int .i64 x.index)) (first | (with_reducible assumption) | go_keep) (fail)
          all_goals
            clear c0 c1 c2 p3 p4 e1 e2 bA
            by_cases hidx : x.index = L.first + L.count + (k : Int)
            · have ei : (x.index == L.first + L.count + (k : Int)) = true := by simpa using hidx
              cases hok : x.ok with
              | true =>
                have HCK3 : Hid (chkF f0 xs = chkF (f0 + ((k + 1 : Nat) : Int)) (xs.drop (k + 1))) := by
                  show _ = _
                  rw [HCK2.out, chk_go (by rw [hidx, hf0]) hok, show f0 + (k : Int) + 1 = f0 + ((k + 1 : Nat) : Int) by push_cast; omega]
                rw [hok] at HVL
                clear hidx hok HCK2
                go_wp2_with fail
                refine (HVL.out _).mono ?_
                rintro e w2 ⟨rfl, hb2⟩
                have B2 := BA.trans (hb2.mono BA.size)
                clear hb2 BA nA n0 n1 n2 HVL
                go_wp2_with fail
                go_roundw
                case rel => exact ⟨k + 1, by omega, by go_num, B2, HCK3.out⟩
                case measure => simp [intOf]; omega
              | false =>
                have HCK3 : Hid (chkF f0 xs = 1) := by show _ = _; rw [HCK2.out, chk_bad (by rw [hidx, hf0]) hok]
                have HVE : Hid (V = (1, D)) := by show V = _; rw [HV1.out, if_pos (by rw [HCK3.out]; decide), HCK3.out]
                have HLE : Hid (L' = L) := by show L' = L; rw [HLL.out, HVE.out, if_neg (show ¬ ((1 : Int) = 0) by decide)]
                have HTE : Hid (T' = T) := by show T' = T; rw [HTT.out, HVE.out, if_neg (show ¬ ((1 : Int) = 0) by decide)]
                rw [hok] at HVL
                clear hidx hok HCK2
                go_wp2_with fail
                refine (HVL.out _).mono ?_
                rintro e w2 ⟨rfl, hb2⟩
                have B2 := BA.trans (hb2.mono BA.size)
                go_wp2_with fail
                go_ret
                exact ⟨by rw [HVE.out]; rfl, HSAME.out w2 B2 (by rw [HVE.out]) HLE.out HTE.out⟩
            · have ei : (x.index == L.first + L.count + (k : Int)) = false := by simpa using hidx
              have HCK3 : Hid (chkF f0 xs = 8) := by show _ = _; rw [HCK2.out, chk_gap (by rw [hf0]; exact hidx)]
              have HVE : Hid (V = (8, D)) := by show V = _; rw [HV1.out, if_pos (by rw [HCK3.out]; decide), HCK3.out]
              have HLE : Hid (L' = L) := by show L' = L; rw [HLL.out, HVE.out, if_neg (show ¬ ((8 : Int) = 0) by decide)]
              have HTE : Hid (T' = T) := by show T' = T; rw [HTT.out, HVE.out, if_neg (show ¬ ((8 : Int) = 0) by decide)]
              clear hidx
              go_wp2_with fail
              go_ret
              exact ⟨by rw [HVE.out]; rfl, HSAME.out _ BA (by rw [HVE.out]) HLE.out HTE.out⟩
      · obtain rfl : k = xs.length := by omega
        have HC0 : Hid (chkF f0 xs = 0) := by show _ = _; rw [HCK.out, List.drop_length]; rfl
        have HV2 : Hid (V = D.stoV L xs) := by show V = _; rw [HV1.out, if_neg (by rw [HC0.out]; decide)]
        cases hxs : xs.getLast? with
        | none =>
          obtain rfl : xs = [] := List.getLast?_eq_none_iff.1 hxs
          have HVE : Hid (V = (0, D)) := HV2.out
          have HLE : Hid (L' = L) := by show L' = L; rw [HLL.out, HVE.out, if_pos rfl]; simp
          have HTE : Hid (T' = T) := by show T' = T; rw [HTT.out, HVE.out, if_pos rfl]; rfl
          go_wp2_with fail
          go_ret
          exact ⟨by rw [HVE.out]; rfl, HSAME.out _ Bk (by rw [HVE.out]) HLE.out HTE.out⟩
        | some z =>
          have hne : xs ≠ [] := fun e => by rw [e] at hxs; cases hxs
          have hpos : 0 < xs.length := List.length_pos_iff.2 hne
          have hpi : ((xs.length : Int) == 0) = false := by simp; omega
          have HV3 : Hid (V = if (entR z).put.2 = 0 then D.store L xs else ((entR z).put.2, D)) := by show V = _; rw [HV2.out]; unfold Dv.stoV; rw [hxs]
          have HALL := Lib.hid (chk_all xs f0 HC0.out)
          have W1 := hW.below Bk
          have B1 : Below n w wr := Bk.mono hn
          have K1 : Kept (But E b bt bd) w wr := Kept.of_below (But.lt hW) Bk
          have hn1 := Nat.le_trans hn B1.size
          have HST := Lib.hid (pstore_any _ xs z W1.dev W1.log W1.eb ((HES.out.below Bk).wide (fun j h => h.1)) hxs hn1 (fun x hx => HT.out x (B1.trans hx)) hw HF.out (fun x hx => by obtain ⟨j, hj⟩ := List.getElem?_of_mem hx; have := (HALL.out j x hj).1; omega) V HV3.out)
          clear hxs hne Bk HV2 HV1 HCK HC0
          go_wp2_with fail
          refine HST.out.mono ?_
          rintro e w2 ⟨rfl, X2, hb2, hk2⟩
          have W2 := W1.turn X2 hk2
          have B2 := B1.trans hb2
          have K2 := K1.trans (hk2.mono (fun j hj => hj.1))
          clear W1 B1 K1 X2 hb2 hk2 HST
          by_cases hv0 : V.1 = 0
          · have ev : (V.1 == 0) = true := by simpa using hv0
            have HLE : Hid (L' = { L with count := L.count + xs.length }) := by show L' = _; rw [HLL.out, if_pos hv0]
            have HTE : Hid (T' = addT T xs) := by show T' = _; rw [HTT.out, if_pos hv0]
            clear ev
            obtain ⟨v1, DV⟩ := V
            obtain rfl : v1 = 0 := hv0
            simp only at W2 ⊢
            go_wp2_with fail
            go_loopw [53] (fun i wr => ∃ k : Nat, k ≤ xs.length ∧ i = .int .i64 k ∧ LogW n E wr b B bt bd DV L (k0 + k) (addT T (xs.take k)) S ∧ Below n w wr ∧ Kept (But E b bt bd) w wr) (fun i _ => xs.length - (intOf i).toNat)
            case atStart => exact ⟨0, by omega, rfl, by simpa [addT] using W2, B2, K2⟩
            case round =>
              obtain ⟨k, hk, rfl, Wk, Bk, Kk⟩ := hrel
              clear W2 B2 K2
              by_cases hlt : k < xs.length
              · have hlt' : (k : Int) < (xs.length : Int) := by omega
                have hkk : (0 : Int) ≤ (k : Int) := by omega
                rcases hg with h0 | ⟨g, rfl, hEg, hgl, hcell⟩
                · omega
                · obtain ⟨x, hx⟩ : ∃ x, xs[k]? = some x := ⟨xs[k], List.getElem?_eq_getElem hlt⟩
                  have htk : xs.take (k + 1) = xs.take k ++ [x] := by rw [List.take_add_one, hx]; rfl
                  obtain ⟨hxi, hxo⟩ := HALL.out k x hx
                  have hxt : 1 ≤ x.term ∧ x.term ≤ 1099511627776 ∧ x.data.size ≤ 488 := by simpa [En.ok] using hxo
                  have hiR : InR x.index := ⟨by omega, by omega⟩
                  have htR : InR x.term := ⟨by omega, by omega⟩
                  obtain ⟨c0', c1', c2'⟩ := hcell k x hx
                  have c0 : wr.cell? ⟨g, k * 3, none⟩ = some (.int .i64 x.index) := by rw [cell_kept (Kk g hEg)]; exact c0'
                  have c1 : wr.cell? ⟨g, k * 3 + 1, none⟩ = some (.int .i64 x.term) := by rw [cell_kept (Kk g hEg)]; exact c1'
                  have c2 : wr.cell? ⟨g, k * 3 + 2, none⟩ = some (.string x.data) := by rw [cell_kept (Kk g hEg)]; exact c2'
                  have hnr := Nat.le_trans hn Bk.size
                  have bA := ((Below.refl wr.heap.size wr).alloc (Nat.le_refl _) (.cells #[.int .i64 x.index, .int .i64 x.term, .string x.data] 60)).drew
                  have nA : EnB (wr.alloc (.cells #[.int .i64 x.index, .int .i64 x.term, .string x.data] 60)).drew wr.heap.size x := EnB.new wr x
                  have WA := Wk.below bA
                  have BA : Below n w (wr.alloc (.cells #[.int .i64 x.index, .int .i64 x.term, .string x.data] 60)).drew := Bk.trans (bA.mono hnr)
                  have KA : Kept (But E b bt bd) w (wr.alloc (.cells #[.int .i64 x.index, .int .i64 x.term, .string x.data] 60)).drew := Kk.trans (Kept.of_below (But.lt Wk) bA)
                  obtain ⟨w3, hr, hT3, hg3⟩ := WA.terms.store (by omega) hiR htR
                  rw [← addT_snoc, ← htk] at hT3
                  have W3 := WA.newTerms hg3 hT3 (Nat.le_succ _)
                  have B3 := grown_below BA hg3 WA.nt (Nat.le_trans hn BA.size)
                  have K3 := KA.grown hg3 (fun j hj => ⟨But.lt WA j hj, hj.2.2.1⟩)
                  have hbx : wr.heap.size ≠ bt := Nat.ne_of_gt Wk.terms.lt
                  have n3 : EnB w3 wr.heap.size x := (hg3.block _ nA.lt (fun e => hbx (Option.some.inj e))).trans nA
                  have p5 := WA.log.cells.1.2.2.2.2.2.1
                  have q5 := W3.log.cells.1.2.2.2.2.2.1
                  obtain ⟨⟨n0, n1, n2⟩, hnf⟩ := nA.cells
                  obtain ⟨⟨m0, m1, m2⟩, hmf⟩ := n3.cells
                  clear hx htk hxi hxo hxt c0' c1' c2' bA Wk Bk Kk WA BA KA hT3 hg3 nA n3 hnf hmf
                  go_wp2_with fail
                  go_region_held3 (fun w' => w'.cell? ⟨b, 5, none⟩ = some (.map (some bt)) ∧ w'.cell? ⟨wr.heap.size, 0, none⟩ = some (.int .i64 x.index) ∧ w'.cell? ⟨wr.heap.size, 1, none⟩ = some (.int .i64 x.term)) (first | (with_reducible assumption) | (refine ⟨?_, ?_, ?_⟩ <;> with_reducible assumption) | go_keep) (fail)
                  all_goals
                    go_wp2_with fail
                    go_roundw
                    case rel => exact ⟨k + 1, by omega, by go_num, W3, B3, K3⟩
                    case measure => simp [intOf]; omega
              · obtain rfl : k = xs.length := by omega
                rw [List.take_length] at Wk
                have W4 := Wk.setCount (L.count + xs.length)
                have B4 := Bk.setCell (p := ⟨b, 4, none⟩) Wk.nb (.int .i64 (L.count + xs.length))
                have K4 := Kk.cell (p := ⟨b, 4, none⟩) (fun j hj => hj.2.1) (.int .i64 (L.count + xs.length))
                have e1 : IntKind.i64.wrap (L.count + (xs.length : Int)) = L.count + (xs.length : Int) := IntWalk.i64_in _ (by omega)
                obtain ⟨⟨_, _, _, _, d4, _, _⟩, _, f4⟩ := Wk.log.cells
                clear Wk Bk Kk
                go_wp2_with fail
                go_ret
                exact ⟨rfl, by rw [HLE.out, HTE.out]; exact W4, B4, K4⟩
          · have ev : (V.1 == 0) = false := by simpa using hv0
            have HLE : Hid (L' = L) := by show L' = _; rw [HLL.out, if_neg hv0]
            have HTE : Hid (T' = T) := by show T' = _; rw [HTT.out, if_neg hv0]
            clear hv0
            go_wp2_with fail
            go_ret
            exact ⟨rfl, by rw [HLE.out, HTE.out]; exact W2.mono (Nat.le_add_right _ _), B2, K2⟩
end
section
open Go.RowKit
set_option linter.unusedVariables false
set_option maxRecDepth 100000

theorem neq_rec (a b : Rc) (B : Bool) (hB : B = true ↔ a = b) (W : World) : (binOp .neq 72 (recV a) (recV b)).run Tryd.prog W = .ok (.bool (!B)) W := by
  obtain ⟨k, i, t, d⟩ := a
  obtain ⟨k', i', t', d'⟩ := b
  have hF : ¬ ((⟨k, i, t, d⟩ : Rc) = ⟨k', i', t', d'⟩) → B = false := fun h => by rw [← Bool.not_eq_true, hB]; exact h
  unfold recV
  by_cases h1 : k = k'
  · by_cases h2 : i = i'
    · by_cases h3 : t = t'
      · by_cases h4 : d = d'
        · subst h1 h2 h3 h4
          rw [hB.2 rfl]
          simp [go_sem]
        · have h4' : (d.toList == d'.toList) = false := by
            rw [beq_eq_false_iff_ne, ByteArray.toList_eq, ByteArray.toList_eq]
            exact fun e => h4 (ByteArray.ext (Array.toList_inj.1 e))
          subst h1 h2 h3
          rw [hF (fun e => h4 (Rc.mk.inj e).2.2.2)]
          simp [go_sem, h4']
      · subst h1 h2
        rw [hF (fun e => h3 (Rc.mk.inj e).2.2.1)]
        simp [go_sem, h3]
    · subst h1
      rw [hF (fun e => h2 (Rc.mk.inj e).2.1)]
      simp [go_sem, h2]
  · rw [hF (fun e => h1 (Rc.mk.inj e).1)]
    simp [go_sem, h1]
/-- What load has found. -/
structure Ld where
  cnt : Nat
  T : Int → Option Int
  H : Int → Bool
  ms : List Rc
open Classical in
/-- One entry more. -/
noncomputable def Ld.step (s : Ld) (i : Int) (e m : Rc × Int) (q : Int) : Ld :=
  if q = 2 then ⟨s.cnt + 1, upd s.T i (some m.1.term), ups s.H i true, s.ms⟩
  else if q = 3 then ⟨s.cnt + 1, s.T, ups s.H i true, s.ms⟩
  else ⟨s.cnt + 1, upd s.T i (some e.1.term), s.H, if m.1 = markR i e.1.term then s.ms else s.ms ++ [markR i e.1.term]⟩
noncomputable def Dv.ld (D : Dv) (L : Lg) : Nat → Ld → Ld × Int
  | 0, s => (s, 0)
  | r + 1, s =>
    if (D.lgread L (L.first + (s.cnt : Int))).2.2 ≠ 0 then (s, (D.lgread L (L.first + (s.cnt : Int))).2.2)
    else if readsF (L.first + (s.cnt : Int)) (D.lgread L (L.first + (s.cnt : Int))).1 (D.lgread L (L.first + (s.cnt : Int))).2.1 = 0 then (s, 0)
    else Dv.ld D L r (s.step (L.first + (s.cnt : Int)) (D.lgread L (L.first + (s.cnt : Int))).1 (D.lgread L (L.first + (s.cnt : Int))).2.1 (readsF (L.first + (s.cnt : Int)) (D.lgread L (L.first + (s.cnt : Int))).1 (D.lgread L (L.first + (s.cnt : Int))).2.1))
theorem ld_succ (D : Dv) (L : Lg) (r : Nat) (s : Ld) : D.ld L (r + 1) s = if (D.lgread L (L.first + (s.cnt : Int))).2.2 ≠ 0 then (s, (D.lgread L (L.first + (s.cnt : Int))).2.2)
    else if readsF (L.first + (s.cnt : Int)) (D.lgread L (L.first + (s.cnt : Int))).1 (D.lgread L (L.first + (s.cnt : Int))).2.1 = 0 then (s, 0)
    else Dv.ld D L r (s.step (L.first + (s.cnt : Int)) (D.lgread L (L.first + (s.cnt : Int))).1 (D.lgread L (L.first + (s.cnt : Int))).2.1 (readsF (L.first + (s.cnt : Int)) (D.lgread L (L.first + (s.cnt : Int))).1 (D.lgread L (L.first + (s.cnt : Int))).2.1)) := rfl
theorem lgread_count (D : Dv) (L : Lg) (c i : Int) : D.lgread { L with count := c } i = D.lgread L i := rfl
/-- All but the log's blocks, and what is new, is as it was. -/
structure Off (w x : World) (b bt bd : Nat) : Prop where
  size : w.heap.size ≤ x.heap.size
  same : ∀ j, j < w.heap.size → j ≠ b → j ≠ bt → j ≠ bd → x.heap[j]? = w.heap[j]?
section
variable {n : Nat} {E : Nat → Prop} {w x y : World} {b B bt bd k k' : Nat} {D : Dv} {L L' : Lg} {T T' : Int → Option Int} {S S' : Int → Bool}
theorem Off.refl (w : World) (b bt bd : Nat) : Off w w b bt bd := ⟨Nat.le_refl _, fun _ _ _ _ _ => rfl⟩
theorem Off.below (o : Off w x b bt bd) (h : Below x.heap.size x y) : Off w y b bt bd := ⟨Nat.le_trans o.size h.size, fun j hj h1 h2 h3 => (h.block j (Nat.lt_of_lt_of_le hj o.size)).trans (o.same j hj h1 h2 h3)⟩
theorem Off.grown {row : Option Nat} (o : Off w x b bt bd) (h : x.grownBy y row) (hr : ∀ g, row = some g → g = bt ∨ g = bd ∨ w.heap.size ≤ g) : Off w y b bt bd :=
  ⟨Nat.le_trans o.size h.size, fun j hj h1 h2 h3 => (h.block j (Nat.lt_of_lt_of_le hj o.size) (fun e => by rcases hr j e.symm with h | h | h; exact h2 h; exact h3 h; omega)).trans (o.same j hj h1 h2 h3)⟩
theorem Off.cell (o : Off w x b bt bd) (i : Nat) (v : Value) : Off w (x.setCell ⟨b, i, none⟩ v) b bt bd := ⟨by simpa using o.size, fun j hj h1 h2 h3 => (block_setCell_other h1).trans (o.same j hj h1 h2 h3)⟩
theorem LogW.redo (h : LogW n E w b B bt bd D L k T S) (o : Off w x b bt bd) (hl : LogB x b B bt bd L') (hT : MapI x bt k' T') (hS : SetI x bd k' S') : LogW n E x b B bt bd D L' k' T' S' := by
  refine ⟨?_, hl, hT, hS, h.eb, h.et, h.ed, h.nb, h.nt, h.nd, h.bt_ne, h.bd_ne, h.td_ne⟩
  obtain ⟨Q, ⟨R, sv, C, hd⟩, hQ, he⟩ := h.dev
  exact ⟨Q, ⟨R, sv, C, hd.keep o.size (fun j hj => o.same j (hd.lt j hj) (fun e => (hQ j hj).2 (by rw [e]; exact h.eb)) (fun e => (hQ j hj).2 (by rw [e]; exact h.et)) (fun e => (hQ j hj).2 (by rw [e]; exact h.ed)))⟩, hQ, fun j hj => Nat.lt_of_lt_of_le (he j hj) o.size⟩
theorem Off.kept (o : Off w x b bt bd) (h : LogW n E w b B bt bd D L k T S) : Kept (But E b bt bd) w x := fun j hj => o.same j (But.lt h j hj) hj.2.1 hj.2.2.1 hj.2.2.2
end
/-- While load runs. -/
structure LdW (n : Nat) (w x : World) (b B bt bd : Nat) (L : Lg) (k : Nat) (T : Int → Option Int) (S : Int → Bool) (v : Value) (ms : List Rc) : Prop where
  log : LogB x b B bt bd L
  terms : MapI x bt k T
  hurts : SetI x bd k S
  off : Off w x b bt bd
  bel : Below n w x
  row : RowR x w.heap.size v ms
section
variable {n : Nat} {E : Nat → Prop} {w x y : World} {b B bt bd k k' k1 : Nat} {D : Dv} {L L' : Lg} {T T' T1 : Int → Option Int} {S S' S1 : Int → Bool} {v v' : Value} {ms ms' : List Rc}
theorem LdW.below (h : LdW n w x b B bt bd L k T S v ms) (hn : n ≤ w.heap.size) (hb : Below x.heap.size x y) : LdW n w y b B bt bd L k T S v ms :=
  ⟨h.log.below hb, h.terms.below hb, h.hurts.below hb, h.off.below hb, h.bel.trans (hb.mono (Nat.le_trans hn h.bel.size)), h.row.below hb⟩
theorem LdW.mono (h : LdW n w x b B bt bd L k T S v ms) (hk : k ≤ k') : LdW n w x b B bt bd L k' T S v ms := ⟨h.log, h.terms.mono hk, h.hurts.mono hk, h.off, h.bel, h.row⟩
theorem LdW.logW (hW : LogW n E w b B bt bd D L k T S) (h : LdW n w x b B bt bd L' k1 T1 S1 v ms) : LogW n E x b B bt bd D L' k1 T1 S1 := hW.redo h.off h.log h.terms h.hurts
theorem LdW.count (hW : LogW n E w b B bt bd D L k T S) (h : LdW n w x b B bt bd L' k1 T1 S1 v ms) (c : Int) : LdW n w (x.setCell ⟨b, 4, none⟩ (.int .i64 c)) b B bt bd { L' with count := c } k1 T1 S1 v ms :=
  ⟨h.log.setCount c, h.terms.keep0 (block_setCell_other (fun e => hW.bt_ne e.symm)), h.hurts.keep0 (block_setCell_other (fun e => hW.bd_ne e.symm)), h.off.cell 4 _, h.bel.setCell (p := ⟨b, 4, none⟩) hW.nb _, h.row.keep (fun j hj => block_setCell_other (fun e => by have := (h.row.lt hj).2; have := hW.log.lt; omega))⟩
theorem LdW.newTerms (hW : LogW n E w b B bt bd D L k T S) (hn : n ≤ w.heap.size) (h : LdW n w x b B bt bd L' k1 T1 S1 v ms) (hg : x.grownBy y (some bt)) (hT : MapI y bt k' T') (hk : k1 ≤ k') : LdW n w y b B bt bd L' k' T' S1 v ms :=
  ⟨(hg.block b h.log.lt (fun e => hW.bt_ne (Option.some.inj e))).trans h.log, hT, (h.hurts.keep0 (hg.block bd h.hurts.lt (fun e => hW.td_ne (Option.some.inj e).symm))).mono hk, h.off.grown hg (fun g e => .inl (Option.some.inj e).symm), grown_below h.bel hg hW.nt (Nat.le_trans hn h.bel.size),
    h.row.keep (fun j hj => hg.block j (h.row.lt hj).1 (fun e => by have := (h.row.lt hj).2; have := hW.terms.lt; have := Option.some.inj e; omega))⟩
theorem LdW.newHurts (hW : LogW n E w b B bt bd D L k T S) (hn : n ≤ w.heap.size) (h : LdW n w x b B bt bd L' k1 T1 S1 v ms) (hg : x.grownBy y (some bd)) (hS : SetI y bd k' S') (hk : k1 ≤ k') : LdW n w y b B bt bd L' k' T1 S' v ms :=
  ⟨(hg.block b h.log.lt (fun e => hW.bd_ne (Option.some.inj e))).trans h.log, (h.terms.keep0 (hg.block bt h.terms.lt (fun e => hW.td_ne (Option.some.inj e)))).mono hk, hS, h.off.grown hg (fun g e => .inr (.inl (Option.some.inj e).symm)), grown_below h.bel hg hW.nd (Nat.le_trans hn h.bel.size),
    h.row.keep (fun j hj => hg.block j (h.row.lt hj).1 (fun e => by have := (h.row.lt hj).2; have := hW.hurts.lt; have := Option.some.inj e; omega))⟩
theorem LdW.newRow (hW : LogW n E w b B bt bd D L k T S) (hn : n ≤ w.heap.size) (h : LdW n w x b B bt bd L' k1 T1 S1 v ms) (hg : x.grownBy y v.ownBlock) (hr : RowR y w.heap.size v' ms') : LdW n w y b B bt bd L' k1 T1 S1 v' ms' := by
  have hne : ∀ j, j < w.heap.size → some j ≠ v.ownBlock := fun j hj e => by have := (h.row.lt e.symm).2; omega
  exact ⟨(hg.block b h.log.lt (hne b hW.log.lt)).trans h.log, h.terms.keep0 (hg.block bt h.terms.lt (hne bt hW.terms.lt)), h.hurts.keep0 (hg.block bd h.hurts.lt (hne bd hW.hurts.lt)), h.off.grown hg (fun g e => .inr (.inr (h.row.lt e).2)), h.bel.grown hg (Nat.le_trans hn h.bel.size) (fun g e => Nat.le_trans hn (h.row.lt e).2), hr⟩
end
set_option maxHeartbeats 4000000 in
theorem pload_any {n : Nat} {E : Nat → Prop} {w : World} {b B bt bd k0 : Nat} {D : Dv} {L : Lg} {T : Int → Option Int} {S : Int → Bool} (sz c0 : Nat) (hW : LogW n E w b B bt bd D L k0 T S) (hn : n ≤ w.heap.size) (ht : ∀ x, Below n w x → Tabs x) (hw : D.writes ≤ 1072000000) (hf : L.Fit) (hk0 : k0 < 900000000)
    (hsz : L.size = (sz : Int)) (hc0 : L.count = (c0 : Int)) (hRT : ∀ i, InR (D.lgread L i).1.1.term ∧ InR (D.lgread L i).2.1.1.term) (V : Ld × Int) (hV : V = D.ld L (sz - c0) ⟨c0, T, S, []⟩) :
    Calls Tryd.prog 46 #[.pointer (some ⟨b, 0, none⟩)] w fun e w' => ∃ v, e = .returned (.tuple #[v, .int .i64 V.2]) ∧ (V.2 = 0 → RowR w' w.heap.size v V.1.ms) ∧ LogW n E w' b B bt bd D { L with count := V.1.cnt } (k0 + 10000) V.1.T V.1.H ∧ Below n w w' ∧ Kept (But E b bt bd) w w' ∧ Off w w' b bt bd := by
  have h1 := hf.first
  have h2 := hf.count
  have h3 := hf.size
  have h4 := hf.base
  have HT := Lib.hid ht
  have HV := Lib.hid hV
  have HRT := Lib.hid hRT
  have HW := Lib.hid hW
  have HFIT := Lib.hid (fun (c : Nat) (hc : c ≤ sz) => show ({ L with count := (c : Int) } : Lg).Fit from ⟨h3, h4, h1, ⟨show (0 : Int) ≤ (c : Int) by omega, show (c : Int) ≤ L.size by omega⟩⟩)
  have hcs : c0 ≤ sz := by omega
  have HR := Lib.hid (fun (W : World) (c : Nat) (hl : LogB W b B bt bd { L with count := (c : Int) }) => preach_any hl (show 0 ≤ L.size ∧ L.size ≤ 4611686018427387 by omega) (show 0 < L.first ∧ L.first ≤ 4611686018427387904 by omega))
  have hl0 : LdW n w w b B bt bd { L with count := (c0 : Int) } (k0 + 2 * c0) T S (.slice none 0 0) [] := ⟨by rw [← hc0]; exact hW.log, hW.terms.mono (Nat.le_add_right _ _), hW.hurts.mono (Nat.le_add_right _ _), Off.refl _ _ _ _, Below.refl _ _, RowR.nil _ _⟩
  have HFIN := Lib.hid (fun (x : World) (s : Ld) (v : Value) (m : Int) (kk : Nat) (hkk : kk ≤ k0 + 10000) (h : LdW n w x b B bt bd { L with count := (s.cnt : Int) } kk s.T s.H v s.ms) (hv : V = (s, m)) (v' : Value) (hr : m = 0 → v' = v) =>
    show (V.2 = 0 → RowR x w.heap.size v' V.1.ms) ∧ LogW n E x b B bt bd D { L with count := V.1.cnt } (k0 + 10000) V.1.T V.1.H ∧ Below n w x ∧ Kept (But E b bt bd) w x ∧ Off w x b bt bd from
      ⟨fun e => by rw [hv] at e ⊢; rw [hr e]; exact h.row, by rw [hv]; exact (LdW.logW hW h).mono hkk, h.bel, h.off.kept hW, h.off⟩)
  clear ht hV hf hRT hW
  go_enter Tryd.func46, Tryd.ntmps46
  go_wp2_with fail
  go_step3
  go_wp2_with fail
  go_step3
  go_wp2_with fail
  go_loopw [4] (fun v4 wr => ∃ s : Ld, s.cnt ≤ sz ∧ c0 ≤ s.cnt ∧ LdW n w wr b B bt bd { L with count := (s.cnt : Int) } (k0 + 2 * s.cnt) s.T s.H v4 s.ms ∧ s.ms.length ≤ s.cnt ∧ Hid (V = D.ld L (sz - s.cnt) s)) (fun _ wr => sz - (intOf ((wr.cell? ⟨b, 4, none⟩).getD undef)).toNat)
  case atStart => exact ⟨⟨c0, T, S, []⟩, hcs, Nat.le_refl _, hl0, Nat.zero_le _, HV.out⟩
  case round =>
    obtain ⟨s, hs, hsc, W0, hms, HVs⟩ := hrel
    have hl := W0.log
    have hld : LogB wr.drew b B bt bd { L with count := (s.cnt : Int) } := hl
    have g4 := hl.cells.1.2.2.2.2.1
    have HG4 := Lib.hid g4
    have BD := (Below.refl wr.heap.size wr).drew
    clear hl0 HV
    go_wp2_with fail
    go_cut [17] (fun v wx => v = .bool (decide (s.cnt < sz)) ∧ Below wr.heap.size wr wx)
    case first =>
      go_region_held3 (fun w' => w'.cell? ⟨b, 4, none⟩ = some (.int .i64 s.cnt)) (first | (with_reducible assumption) | go_keep)
        (first | (go_at_call 49; refine (HR.out _ s.cnt hld).mono ?_; rintro e w2 ⟨rfl, hb2⟩; have B2 := BD.trans (hb2.mono BD.size); have q4 := (hl.below B2).cells.1.2.2.2.2.1))
      all_goals (go_wp2_with fail; go_meet)
      all_goals exact ⟨rfl, by with_reducible assumption⟩
    case rest =>
      obtain ⟨rfl, BC⟩ := hcut
      have W1u := W0.below hn BC
      have W1 := W1u.below hn ((Below.refl _ wc).drew)
      clear W0 hl hld g4 BD BC
      by_cases hlt : s.cnt < sz
      · obtain ⟨r, hr⟩ : ∃ r, sz - s.cnt = r + 1 := ⟨sz - s.cnt - 1, by omega⟩
        have hr' : sz - (s.cnt + 1) = r := by omega
        obtain ⟨i, hi⟩ : ∃ i, i = L.first + (s.cnt : Int) := ⟨_, rfl⟩
        obtain ⟨X, hX⟩ : ∃ X, X = D.lgread L i := ⟨_, rfl⟩
        have HV1 : Hid (V = if X.2.2 ≠ 0 then (s, X.2.2) else if readsF i X.1 X.2.1 = 0 then (s, 0) else Dv.ld D L r (s.step i X.1 X.2.1 (readsF i X.1 X.2.1))) := by
          show V = _
          rw [HVs.out, hr, ld_succ, ← hi, ← hX]
        have e1 : IntKind.i64.wrap (L.first + (s.cnt : Int)) = i := (IntWalk.i64_in _ (by omega)).trans hi.symm
        have HRD := Lib.hid (lgread_any i (LdW.logW HW.out W1).dev W1.log (HT.out _ W1.bel) (by omega) (HFIT.out s.cnt hs) (by omega))
        rw [lgread_count, ← hX] at HRD
        have HRI := HRT.out i
        rw [← hX] at HRI
        have hiR : InR i := ⟨by omega, by omega⟩
        obtain ⟨⟨⟨_, _, _, g3, g4, _, _⟩, _⟩, _⟩ := And.intro W1.log.cells trivial
        obtain ⟨⟨en, es⟩, ⟨mk, mt⟩, er⟩ := X
        unfold lgreadV celV at HRD
        simp only at HRD HV1 HRI
        clear HVs hX hr hi
        by_cases hze : er = 0
        · subst hze
          have HRS := Lib.hid (fun (W : World) => preads_any i (en, es) (mk, mt) W)
          obtain ⟨q, hq⟩ : ∃ q, q = readsF i (en, es) (mk, mt) := ⟨_, rfl⟩
          rw [← hq] at HRS HV1
          clear hq
          have HMO := Lib.hid (fun (W : World) => pmark_any i en.term W)
          unfold celV at HRS
          unfold recV markR at HMO
          simp only at HRS HMO
          go_wp2_with fail
          go_region_held3 (fun w' => w'.cell? ⟨b, 3, none⟩ = some (.int .i64 L.first) ∧ w'.cell? ⟨b, 4, none⟩ = some (.int .i64 s.cnt)) (first | (with_reducible assumption) | go_keep) (fail)
          all_goals
            go_wp2_with fail
            refine HRD.out.mono ?_
            rintro e w2 ⟨rfl, hb2⟩
            have W2 := W1.below hn hb2
            have HB2 := Lib.hid W2.off.size
            have bA := (Below.refl w2.heap.size w2).alloc (Nat.le_refl _) (.cells #[.int .i64 en.kind, .int .i64 en.index, .int .i64 en.term, .string en.data, .int .i64 es] 125)
            have bB := bA.alloc bA.size (.cells #[.int .i64 mk.kind, .int .i64 mk.index, .int .i64 mk.term, .string mk.data, .int .i64 mt] 125)
            have nA := CelB.new w2 (en, es)
            have nB := CelB.new (w2.alloc (.cells #[.int .i64 en.kind, .int .i64 en.index, .int .i64 en.term, .string en.data, .int .i64 es] 125)) (mk, mt)
            rw [World.size_alloc] at nB
            have mA := nA.below ((Below.refl _ _).alloc (Nat.le_refl _) (.cells #[.int .i64 mk.kind, .int .i64 mk.index, .int .i64 mk.term, .string mk.data, .int .i64 mt] 125))
            clear g3 g4 e1 hb2 W1 W1u HRD
            go_wp2_with fail
            refine (HRS.out _).mono ?_
            rintro e w3 ⟨rfl, hb3⟩
            have C1 := mA.below hb3
            have C2 := nB.below hb3
            have W3 := W2.below hn (bB.trans (hb3.mono bB.size))
            clear bA bB nA nB mA hb3 W2 HRS
            by_cases hq0 : q = 0
            · subst hq0
              have HVE : Hid (V = (s, 0)) := by show V = _; rw [HV1.out, if_neg (by simp), if_pos rfl]
              go_wp2_with fail
              rw [Exit.noGoto_ret]; go_ret2
              exact ⟨u4, by rw [HVE.out]; rfl, HFIN.out w3 s u4 0 _ (by omega) W3 HVE.out u4 (fun _ => rfl)⟩
            · have HV2 : Hid (V = Dv.ld D L r (s.step i (en, es) (mk, mt) q)) := by show V = _; rw [HV1.out, if_neg (by simp), if_neg hq0]
              have W4 := W3.count HW.out ((s.cnt : Int) + 1)
              have hbw := HW.out.log.lt
              have htw := HW.out.terms.lt
              have hdw := HW.out.hurts.lt
              have hw2 := HB2.out
              have hne1 : w2.heap.size ≠ b := by omega
              have hne2 : w2.heap.size + 1 ≠ b := by omega
              have hte1 : some w2.heap.size ≠ some bt := fun e => by have := Option.some.inj e; omega
              have hte2 : some (w2.heap.size + 1) ≠ some bt := fun e => by have := Option.some.inj e; omega
              have D1 : CelB (w3.setCell ⟨b, 4, none⟩ (.int .i64 ((s.cnt : Int) + 1))) w2.heap.size (en, es) := (block_setCell_other hne1).trans C1
              have D2 : CelB (w3.setCell ⟨b, 4, none⟩ (.int .i64 ((s.cnt : Int) + 1))) (w2.heap.size + 1) (mk, mt) := (block_setCell_other hne2).trans C2
              obtain ⟨⟨_, _, _, _, g4, _, _⟩, _, f4⟩ := W3.log.cells
              have e2 : IntKind.i64.wrap ((s.cnt : Int) + 1) = (s.cnt : Int) + 1 := IntWalk.i64_in _ (by omega)
              have HCAST := Lib.hid (show ((s.cnt : Int) + 1) = ((s.cnt + 1 : Nat) : Int) by push_cast; rfl)
              clear hbw hdw hw2 htw C1 C2 W3 hne1 hne2
              by_cases hq2 : q = 2
              · subst hq2
                have HV3 : Hid (V = Dv.ld D L r ⟨s.cnt + 1, upd s.T i (some mk.term), ups s.H i true, s.ms⟩) := HV2.out
                have W4d := W4.below hn ((Below.refl _ _).drew)
                have D2d : CelB (w3.setCell ⟨b, 4, none⟩ (.int .i64 ((s.cnt : Int) + 1))).drew (w2.heap.size + 1) (mk, mt) := D2
                obtain ⟨w5, hr5, hT5, hg5⟩ := W4d.terms.store (by omega) hiR HRI.2
                have W5 := LdW.newTerms HW.out hn W4d hg5 hT5 (Nat.le_succ _)
                have E2 : CelB w5 (w2.heap.size + 1) (mk, mt) := (hg5.block _ D2d.lt hte2).trans D2d
                obtain ⟨w6, hr6, hS6, hg6⟩ := W5.hurts.store (by omega) hiR
                have W6 := LdW.newHurts HW.out hn W5 hg6 hS6 (Nat.le_succ _)
                have p5 := W4d.log.cells.1.2.2.2.2.2.1
                have q5 := W5.log.cells.1.2.2.2.2.2.1
                have q6 := W5.log.cells.1.2.2.2.2.2.2
                obtain ⟨⟨_, _, d2, _, _⟩, _⟩ := D2d.cells
                obtain ⟨⟨_, _, x2, _, _⟩, _⟩ := E2.cells
                have r4 := W6.log.cells.1.2.2.2.2.1
                clear W4 W4d W5 hT5 hg5 D1 D2 D2d E2 hS6 hg6 HV2 HV1 HMO
                go_wp2_with fail
                go_region_held3 (fun w' => w'.cell? ⟨b, 5, none⟩ = some (.map (some bt)) ∧ w'.cell? ⟨w2.heap.size + 1, 2, none⟩ = some (.int .i64 mk.term)) (first | (with_reducible assumption) | (refine ⟨?_, ?_⟩ <;> with_reducible assumption) | go_keep) (fail)
                all_goals
                  go_wp2_with fail
                  go_roundw
                  case rel => exact ⟨⟨s.cnt + 1, upd s.T i (some mk.term), ups s.H i true, s.ms⟩, hlt, by show c0 ≤ s.cnt + 1; omega, by rw [← HCAST.out]; exact W6, by show s.ms.length ≤ s.cnt + 1; omega, by show V = _; rw [HV3.out, hr']⟩
                  case measure => rw [HG4.out, r4]; simp [intOf]; omega
              · by_cases hq3 : q = 3
                · subst hq3
                  have HV3 : Hid (V = Dv.ld D L r ⟨s.cnt + 1, s.T, ups s.H i true, s.ms⟩) := HV2.out
                  obtain ⟨w6, hr6, hS6, hg6⟩ := W4.hurts.store (by omega) hiR
                  have W6 := LdW.newHurts HW.out hn W4 hg6 hS6 (Nat.le_succ _)
                  have q6 := W4.log.cells.1.2.2.2.2.2.2
                  have r4 := W6.log.cells.1.2.2.2.2.1
                  clear W4 D1 D2 hS6 hg6 HV2 HV1 HMO
                  go_wp2_with fail
                  go_roundw
                  case rel => exact ⟨⟨s.cnt + 1, s.T, ups s.H i true, s.ms⟩, hlt, by show c0 ≤ s.cnt + 1; omega, by rw [← HCAST.out]; exact W6.mono (by show k0 + 2 * s.cnt + 1 ≤ k0 + 2 * (s.cnt + 1); omega), by show s.ms.length ≤ s.cnt + 1; omega, by show V = _; rw [HV3.out, hr']⟩
                  case measure => rw [HG4.out, r4]; simp [intOf]; omega
                · have f2 : (q == 2) = false := by simpa using hq2
                  have f3 : (q == 3) = false := by simpa using hq3
                  obtain ⟨BQ, hBQ⟩ : ∃ BQ : Bool, BQ = true ↔ mk = markR i en.term := ⟨@decide (mk = markR i en.term) (Classical.propDecidable _), by simp⟩
                  have HV3 : Hid (V = Dv.ld D L r ⟨s.cnt + 1, upd s.T i (some en.term), s.H, if BQ = true then s.ms else s.ms ++ [markR i en.term]⟩) := by
                    show V = _
                    rw [HV2.out]
                    have e : ∀ x y : List Rc, (@ite (List Rc) (mk = markR i en.term) (Classical.propDecidable _) x y) = if BQ = true then x else y := fun x y => (Classical.em (mk = markR i en.term)).elim (fun h => by rw [if_pos h, if_pos (hBQ.2 h)]) (fun h => by rw [if_neg h, if_neg (fun e => h (hBQ.1 e))])
                    unfold Ld.step
                    rw [if_neg hq2, if_neg hq3, e]
                  have hneq := neq_rec mk (markR i en.term) BQ hBQ
                  unfold recV markR at hneq
                  simp only at hneq
                  have W4d := W4.below hn ((Below.refl _ _).drew)
                  have D1d : CelB (w3.setCell ⟨b, 4, none⟩ (.int .i64 ((s.cnt : Int) + 1))).drew w2.heap.size (en, es) := D1
                  have D2d : CelB (w3.setCell ⟨b, 4, none⟩ (.int .i64 ((s.cnt : Int) + 1))).drew (w2.heap.size + 1) (mk, mt) := D2
                  obtain ⟨w5, hr5, hT5, hg5⟩ := W4d.terms.store (by omega) hiR HRI.1
                  have W5 := LdW.newTerms HW.out hn W4d hg5 hT5 (Nat.le_succ _)
                  have E1 : CelB w5 w2.heap.size (en, es) := (hg5.block _ D1d.lt hte1).trans D1d
                  have E2 : CelB w5 (w2.heap.size + 1) (mk, mt) := (hg5.block _ D2d.lt hte2).trans D2d
                  have p5 := W4d.log.cells.1.2.2.2.2.2.1
                  have q5 := W5.log.cells.1.2.2.2.2.2.1
                  obtain ⟨⟨_, _, d2, _, _⟩, _⟩ := D1d.cells
                  obtain ⟨⟨_, _, x2, _, _⟩, _⟩ := E1.cells
                  clear W4 W4d hT5 hg5 D1 D2 D1d D2d HV2 HV1 hq2 hq3 hBQ
                  go_wp2_with fail
                  go_region_held3 (fun w' => w'.cell? ⟨b, 5, none⟩ = some (.map (some bt)) ∧ w'.cell? ⟨w2.heap.size, 2, none⟩ = some (.int .i64 en.term)) (first | (with_reducible assumption) | (refine ⟨?_, ?_⟩ <;> with_reducible assumption) | go_keep) (fail)
                  all_goals
                    go_wp2_with fail
                    refine (HMO.out _).mono ?_
                    rintro e w6 ⟨rfl, hb6⟩
                    have bR := (Below.refl w6.heap.size w6).alloc (Nat.le_refl _) (.cells #[.int .i64 3, .int .i64 i, .int .i64 en.term, .string ⟨#[]⟩] 72)
                    have W6 := (W5.below hn hb6).below hn bR
                    have F2 := (E2.below hb6).below bR
                    have hH : RecB (w6.alloc (.cells #[.int .i64 3, .int .i64 i, .int .i64 en.term, .string ⟨#[]⟩] 72)) w6.heap.size ⟨3, i, en.term, ⟨#[]⟩⟩ := mark_new w6 ⟨i, en.term, ⟨#[]⟩⟩
                    have hHs : RecB ((w6.alloc (.cells #[.int .i64 3, .int .i64 i, .int .i64 en.term, .string ⟨#[]⟩] 72)).alloc (.cells #[.int .i64 3, .int .i64 i, .int .i64 en.term, .string ⟨#[]⟩] 72)) (w6.heap.size + 1) (markR i en.term) := by
                      have h := mark_new (w6.alloc (.cells #[.int .i64 3, .int .i64 i, .int .i64 en.term, .string ⟨#[]⟩] 72)) ⟨i, en.term, ⟨#[]⟩⟩
                      rw [World.size_alloc] at h
                      exact h
                    have W7 := W6.below hn ((Below.refl _ _).alloc (Nat.le_refl _) (.cells #[.int .i64 3, .int .i64 i, .int .i64 en.term, .string ⟨#[]⟩] 72))
                    have hz := hH.cells.1
                    simp only at hz
                    obtain ⟨z0, z1, z2, z3⟩ := hz
                    have hy := F2.cells.1
                    simp only at hy
                    obtain ⟨y0, y1, y2, y3, _⟩ := hy
                    have r4 := W6.log.cells.1.2.2.2.2.1
                    clear hb6 bR W5 E1 E2 F2 hH x2 d2 p5 q5 hr5 HMO
                    cases BQ with
                    | true =>
                      go_wp2_with fail
                      go_roundw
                      case rel => exact ⟨⟨s.cnt + 1, upd s.T i (some en.term), s.H, s.ms⟩, hlt, by show c0 ≤ s.cnt + 1; omega, by rw [← HCAST.out]; exact W6.mono (by show k0 + 2 * s.cnt + 1 ≤ k0 + 2 * (s.cnt + 1); omega), by show s.ms.length ≤ s.cnt + 1; omega, by show V = _; rw [HV3.out, hr']; rfl⟩
                      case measure => rw [HG4.out, r4]; simp [intOf]; omega
                    | false =>
                      go_wp2_with (at_builtin; refine wpList_append_rec _ rfl _ _ rfl w.heap.size u4 _ rfl W7.row (w6.heap.size + 1) (markR i en.term) rfl hHs (by omega) W7.off.size ?_; intro g7 cap7 w8 ho8 hg8 hat8)
                      have W8 := LdW.newRow HW.out hn W7 hg8 ho8
                      have s4 := W8.log.cells.1.2.2.2.2.1
                      go_wp2_with fail
                      go_roundw
                      case rel => exact ⟨⟨s.cnt + 1, upd s.T i (some en.term), s.H, s.ms ++ [markR i en.term]⟩, hlt, by show c0 ≤ s.cnt + 1; omega, by rw [← HCAST.out]; exact W8.mono (by show k0 + 2 * s.cnt + 1 ≤ k0 + 2 * (s.cnt + 1); omega), by simp; omega, by show V = _; rw [HV3.out, hr']; rfl⟩
                      case measure => rw [HG4.out, s4]; simp [intOf]; omega
        · have ee : (er == 0) = false := by simpa using hze
          have HVE : Hid (V = (s, er)) := by show V = _; rw [HV1.out, if_pos hze]
          go_wp2_with fail
          go_region_held3 (fun w' => w'.cell? ⟨b, 3, none⟩ = some (.int .i64 L.first) ∧ w'.cell? ⟨b, 4, none⟩ = some (.int .i64 s.cnt)) (first | (with_reducible assumption) | go_keep) (fail)
          all_goals
            go_wp2_with fail
            refine HRD.out.mono ?_
            rintro e w2 ⟨rfl, hb2⟩
            have W2 := W1.below hn hb2
            have bA := (Below.refl w2.heap.size w2).alloc (Nat.le_refl _) (.cells #[.int .i64 en.kind, .int .i64 en.index, .int .i64 en.term, .string en.data, .int .i64 es] 125)
            have bB := bA.alloc bA.size (.cells #[.int .i64 mk.kind, .int .i64 mk.index, .int .i64 mk.term, .string mk.data, .int .i64 mt] 125)
            have W3 := W2.below hn bB
            clear g3 g4 e1 hb2 W1 W1u W2 HRD bA bB
            go_wp2_with fail
            rw [Exit.noGoto_ret]; go_ret2
            exact ⟨.slice none 0 0, by rw [HVE.out]; rfl, HFIN.out _ s u4 er _ (by omega) W3 HVE.out _ (fun h => absurd h hze)⟩
      · have HVE : Hid (V = (s, 0)) := by show V = _; rw [HVs.out, show sz - s.cnt = 0 by omega]; rfl
        go_wp2_with fail
        rw [Exit.noGoto_ret]; go_ret2
        exact ⟨u4, by rw [HVE.out]; rfl, HFIN.out _ s u4 0 _ (by omega) W1u HVE.out u4 (fun _ => rfl)⟩
end
end Go.Proofs.YtigebaaldikeaaaDoor
