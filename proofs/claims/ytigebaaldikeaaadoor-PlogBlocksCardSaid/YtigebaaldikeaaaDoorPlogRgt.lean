/- Steps of the region that grows what should be there (PlogRings). -/
import Derived.Test.YtigebaaldikeaaaDoorPlogAgn
import Derived.Test.YtigebaaldikeaaaDoorInvar4
import Derived.Deep.LoopGhost
namespace Go.Proofs.YtigebaaldikeaaaDoor
open Go Go.RowKit Go.Proofs.Tryd
set_option linter.unusedVariables false
set_option maxRecDepth 100000
section
variable {Q : Exit → Act → World → Prop} {l : List Oper}
theorem gstep_len {i : Nat} {o : Oper} {a : Act} {w : World} {K : Act → World → Prop} (ho : l[i]? = some o) (hw : WantedIs l a o true) (s : Operand) (hop : o.op = .call { callee := .builtin .len, args := #[s], argTypes := #[50] }) (p : Option Addr) (n c : Nat) (he : a.eval s = .slice p n c)
    (h : K (a.put o.dst (.int .i64 n)) w) : Step Tryd.prog l Q i K a w :=
  gstep_value ho hw _ w (by simp only [execOp, hop, resolve, List.map_toArray, List.map_cons, List.map_nil, he]; go_simp) h
theorem gstep_cut {i : Nat} {o : Oper} {a : Act} {w : World} {K : Act → World → Prop} (ho : l[i]? = some o) (hw : WantedIs l a o true) (s x y : Operand) (hop : o.op = .slice 50 s none (some x) (some y)) (p : Option Addr) (n c : Nat) (hnc : n ≤ c) (he : a.eval s = .slice p n c) (hx : a.eval x = .int .i64 n) (hy : a.eval y = .int .i64 n)
    (h : K (a.put o.dst (.slice p n n)) w) : Step Tryd.prog l Q i K a w :=
  gstep_value ho hw _ w (by
    have h1 : (n : Int) ≤ (c : Int) := by omega
    have h0 : (0 : Int) ≤ (n : Int) := by omega
    simp only [execOp, hop, Option.map_some, Option.map_none, he, hx, hy]; go_simp) h
theorem gstep_row {i : Nat} {o : Oper} {a : Act} {w : World} {K : Act → World → Prop} (ho : l[i]? = some o) (hw : WantedIs l a o true) (s : Operand) (hop : o.op = .buildSlice 50 1 #[(0, s)]) (x : En) (he : a.eval s = enV x)
    (h : K (a.put o.dst (.slice (some ⟨w.heap.size, 0, none⟩) 1 1)) (w.alloc (.cells #[.int .i64 x.index, .int .i64 x.term, .string x.data] 60))) : Step Tryd.prog l Q i K a w :=
  gstep_value ho hw _ _ (by unfold enV at he; simp only [execOp, hop, List.map_toArray, List.map_cons, List.map_nil, he]; go_simp) h
end
theorem run_wldf (W : World) (b : Nat) : (Instr.fieldAt 52 (.pointer (some ⟨b, 0, none⟩)) 3).run Tryd.prog W = .ok (.pointer (some ⟨b, 3, none⟩)) W := by go_simp
theorem run_loadZ (W : World) (p : Addr) (a : Option Addr) (n c : Nat) (h : W.cell? p = some (.slice a n c)) : (Instr.loadAt 50 (.pointer (some p))).run Tryd.prog W = .ok (.slice a n c) W := by go_simp
theorem run_storeZ (W : World) (p : Addr) (v : Value) (a : Option Addr) (n c : Nat) (u : Value) (h : W.cell? p = some u) (hf : W.frozen? p = false) : (Instr.storeAt 50 (.pointer (some p)) (.slice a n c)).run Tryd.prog W = .ok () (W.setCell p (.slice a n c)) := by go_simp
theorem World.ownsRow_below {w w' : World} {base : Nat} {e : TypeId} {size : Nat} {v : Value} {n : Nat} {xs : List Value} (h : w.ownsRow base e size v n xs) (hb : Below w.heap.size w w') : w'.ownsRow base e size v n xs :=
  ownsRow_same h (fun k hk => hb.block k (World.ownsRow.lt h k hk).2)
theorem ownsRow_less {w : World} {base base' : Nat} {e : TypeId} {size : Nat} {v : Value} {n : Nat} {xs : List Value} (h : w.ownsRow base e size v n xs) (hb : base' ≤ base) : w.ownsRow base' e size v n xs :=
  ⟨h.1, h.2.imp id (fun ⟨g, cap, cur, h1, h2, h3⟩ => ⟨g, cap, cur, h1, Nat.le_trans hb h2, h3⟩)⟩
theorem gstep_push {Q : Exit → Act → World → Prop} {l : List Oper} {i : Nat} {o : Oper} {a : Act} {w : World} {K : Act → World → Prop} (ho : l[i]? = some o) (hw : WantedIs l a o true) (hg : o.guard = none) (s x : Operand) (hop : o.op = .call { callee := .builtin .append, args := #[s, x], argTypes := #[50, 50] })
    (p : Option Addr) (n : Nat) (olds : List Value) (hs : a.eval s = .slice p n n) (hnone : p = none → n = 0 ∧ n = 0) (hlo : olds.length = n * 3) (holds : ∀ b, p = some b → ∀ j u, olds[j]? = some u → w.cell? (b.add j) = some u)
    (g : Nat) (e : En) (hx : a.eval x = .slice (some ⟨g, 0, none⟩) 1 1) (he : EnB w g e) (hn : n ≤ 10000)
    (hK : ∀ v' w', w'.ownsRow w.heap.size 60 3 v' (n + 1) (olds ++ enCells [e]) → w.grownBy w' none → K (a.put o.dst v') w') : Step Tryd.prog l Q i K a w := by
  obtain ⟨i0, hi0, hz0, hz1, hz2⟩ := info_parts info_en
  have hc : ∀ (j : Nat) (u : Value), (enCells [e])[j]? = some u → w.cell? (Addr.add ⟨g, 0, none⟩ j) = some u := World.news_of_block (cs := #[.int .i64 e.index, .int .i64 e.term, .string e.data]) (t := 60) (fr := (0, 0)) he
  refine ⟨?_⟩
  unfold wpOp
  rw [show l.toArray[i]? = some o by simpa using ho]
  have h := step_append_grows (ops := l.toArray) (Q := Q) (E := True) hg s x _ hop 60 i0 _ 3 32 und_ens hi0 hz0 hz1 hz2 rfl (by decide) p n n olds hs hnone hlo holds ⟨g, 0, none⟩ 1 1 (enCells [e]) hx rfl hc (enCells_one _) (by omega) (by unfold maxLen; omega) (by omega) hK
  have hw' : Region.wanted o (yielded l.toArray a.tmps) = true := hw
  rw [if_pos hw'] at h
  show (if Region.wanted o (yielded l.toArray a.tmps) = true then _ else _)
  rw [if_pos hw']
  exact .inl h
def FRg (m wb bx : Nat) (a : Option Addr) (n c : Nat) (xs : List En) (e : En) : Nat → Value → World → Prop
  | 0, v, _ => v = .pointer (some ⟨wb, 0, none⟩)
  | 1, v, _ => v = .pointer (some ⟨wb, 0, none⟩)
  | 2, v, _ => v = .pointer (some ⟨wb, 0, none⟩)
  | 3, v, _ => v = .pointer (some ⟨wb, 3, none⟩)
  | 4, v, _ => v = .slice a n c
  | 5, v, _ => v = .pointer (some ⟨wb, 0, none⟩)
  | 6, v, _ => v = .pointer (some ⟨wb, 0, none⟩)
  | 7, v, _ => v = .pointer (some ⟨wb, 3, none⟩)
  | 8, v, _ => v = .slice a n c
  | 9, v, _ => v = .int .i64 (n : Int)
  | 10, v, _ => v = .pointer (some ⟨wb, 0, none⟩)
  | 11, v, _ => v = .pointer (some ⟨wb, 0, none⟩)
  | 12, v, _ => v = .pointer (some ⟨wb, 3, none⟩)
  | 13, v, _ => v = .slice a n c
  | 14, v, _ => v = .int .i64 (n : Int)
  | 15, v, _ => v = .slice a n n
  | 16, v, _ => v = enV e
  | 17, v, w => ∃ g, v = .slice (some ⟨g, 0, none⟩) 1 1 ∧ EnB w g e
  | 18, v, w => w.ownsRow m 60 3 v (n + 1) (enCells xs ++ enCells [e])
  | 19, v, _ => v = .pointer (some ⟨wb, 0, none⟩)
  | 20, v, _ => v = .pointer (some ⟨wb, 3, none⟩)
  | _, _, _ => True
theorem FRg_keep {m wb bx : Nat} {a : Option Addr} {n c : Nat} {xs : List En} {e : En} {v : Value} {w w' : World} (hb : Below w.heap.size w w') : ∀ i : Nat, FRg m wb bx a n c xs e i v w → FRg m wb bx a n c xs e i v w'
  | 0, h => h
  | 1, h => h
  | 2, h => h
  | 3, h => h
  | 4, h => h
  | 5, h => h
  | 6, h => h
  | 7, h => h
  | 8, h => h
  | 9, h => h
  | 10, h => h
  | 11, h => h
  | 12, h => h
  | 13, h => h
  | 14, h => h
  | 15, h => h
  | 16, h => h
  | 17, ⟨g, h1, h2⟩ => ⟨g, h1, h2.below hb⟩
  | 18, h => World.ownsRow_below h hb
  | 19, h => h
  | 20, h => h
  | _ + 21, _ => trivial
theorem EnA.tail {F : Nat → Prop} {w : World} {a : Option Addr} {c : Nat} {ys : List En} (h : EnA F w (.slice a ys.length c) ys) (h1 : 1 ≤ ys.length) (hc : ys.length ≤ c) (v : Value)
    (hv : (c - 1 = 0 ∧ v = .slice a (ys.length - 1) 0) ∨ v = .slice (Option.map (fun x => ({ block := x.block, off := x.off + 3 } : Addr)) a) (ys.length - 1) (c - 1)) : EnA F w v (ys.drop 1) := by
  obtain ⟨a', cap, hs, hn, h⟩ := h
  have hl : (ys.drop 1).length = ys.length - 1 := by simp
  rcases hv with ⟨h0, rfl⟩ | rfl
  · refine ⟨a, 0, by rw [hl], by omega, .inl (by omega)⟩
  · have ha : a = a' := by injection hs
    subst ha
    rcases h with h | ⟨g, off, rfl, hg, hgl, hcs⟩
    · omega
    · refine ⟨some ⟨g, off + 3, none⟩, c - 1, by rw [hl]; rfl, by omega, .inr ⟨g, off + 3, rfl, hg, hgl, fun j x hx => ?_⟩⟩
      have hx' : ys[j + 1]? = some x := by rw [List.getElem?_drop] at hx; rw [Nat.add_comm]; exact hx
      have := hcs (j + 1) x hx'
      rw [show off + (j + 1) * 3 = off + 3 + j * 3 by omega] at this
      exact this
theorem WlIn.tail {m wb : Nat} {wr w6 : World} {E : Nat → Prop} {B b bt bd cnt : Nat} {D : Dv} {f : Int} {ys : List En} {a : Option Addr} {c : Nat} {vm : Value} (h : WlIn m wb wr E B b bt bd D f ys cnt (.slice a ys.length c) vm)
    (hL : Lw m E w6 b B bt bd 19 3 8 (f + 1) (ys.drop (f + 1 - f).toNat) cnt D) (hb : Below m wr.drew w6) (hk : Kept (But E b bt bd) wr.drew w6) (h1 : 1 ≤ ys.length) (v : Value)
    (hv : (c - 1 = 0 ∧ v = .slice a (ys.length - 1) 0) ∨ v = .slice (Option.map (fun x => ({ block := x.block, off := x.off + 3 } : Addr)) a) (ys.length - 1) (c - 1)) :
    WlIn m wb ((w6.setCell ⟨wb, 2, none⟩ (.int .i64 (f + 1))).setCell ⟨wb, 3, none⟩ v) E B b bt bd D (f + 1) (ys.drop 1) cnt v vm ∧ Below m wr ((w6.setCell ⟨wb, 2, none⟩ (.int .i64 (f + 1))).setCell ⟨wb, 3, none⟩ v) := by
  have hl : (ys.drop 1).length = ys.length - 1 := by simp
  have e : (f + 1 - f).toNat = 1 := by omega
  rw [e] at hL
  obtain ⟨a2, c2, hs, hcc, hcn, hsp⟩ := h.cap
  have e2 : a = a2 ∧ c = c2 := by injection hs with x1 x2 x3; exact ⟨x1, x3⟩
  obtain ⟨rfl, rfl⟩ := e2
  have hbb : Below m wr w6 := ((Below.refl m wr).drew).trans hb
  have V4d : WldB wr.drew wb B b f (.slice a ys.length c) vm := h.wld
  have V6 := V4d.keep hk h.but
  have A6 := (h.all.keep (w' := wr.drew) (G := But E b bt bd) (fun _ _ => rfl) (fun _ h => h) (Nat.le_refl _)).keep hk (fun _ h => h) hb.size
  have A7 := A6.setW V6 h.cap 2 (.int .i64 (f + 1))
  have A8 := A7.setW (V6.setFirst (f + 1)) h.cap 3 v
  have B7 := (hbb.setCell (p := ⟨wb, 2, none⟩) h.mwb (.int .i64 (f + 1))).setCell (p := ⟨wb, 3, none⟩) h.mwb v
  refine ⟨⟨(hL.setOut h.but h.mwb 2 _).setOut h.but h.mwb 3 _, (V6.setFirst (f + 1)).setAll v, A8.tail h1 hcc v hv, ?_, h.but, h.mwb, Nat.le_trans h.size B7.size, h.pure⟩, B7⟩
  rw [hl]
  rcases hv with ⟨h0, rfl⟩ | rfl
  · exact ⟨a, 0, rfl, by omega, fun _ => rfl, hsp⟩
  · refine ⟨_, c - 1, rfl, by omega, fun hh => ?_, fun b hb => ?_⟩
    · cases a with
      | none => have := hcn rfl; omega
      | some x => cases hh
    · cases a with
      | none => cases hb
      | some x => injection hb with hb; rw [← hb]
end Go.Proofs.YtigebaaldikeaaaDoor
