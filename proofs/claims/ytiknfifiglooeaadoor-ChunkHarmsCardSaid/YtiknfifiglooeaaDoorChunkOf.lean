/- Of: the list of a text. No conditions beyond those in each statement. -/
import Derived.Test.YtiknfifiglooeaaDoorChunkSum
namespace Go.Proofs.YtiknfifiglooeaaDoor
open Go Go.RowKit Go.Proofs.Tryd
set_option linter.unusedVariables false
set_option maxRecDepth 100000

/-- A list. -/
structure Ls where
  index : Int
  term : Int
  bytes : Int
  sums : List Int
def lsV (l : Ls) (sv : Value) : Value := .agg #[.int .i64 l.index, .int .i64 l.term, .int .i64 l.bytes, sv]
/-- A list's box. -/
def LsB (w : World) (b : Nat) (i t n : Int) (sv : Value) : Prop := w.heap[b]? = some (.cells #[.int .i64 i, .int .i64 t, .int .i64 n, sv] 67 (0, 0))
section
variable {w w' : World} {b : Nat} {i t n : Int} {sv : Value}
theorem LsB.lt (h : LsB w b i t n sv) : b < w.heap.size := lt_of_block h
theorem LsB.below (h : LsB w b i t n sv) (k : Below w.heap.size w w') : LsB w' b i t n sv := (k.block b h.lt).trans h
theorem LsB.cells (h : LsB w b i t n sv) : (w.cell? ⟨b, 0, none⟩ = some (.int .i64 i) ∧ w.cell? ⟨b, 1, none⟩ = some (.int .i64 t) ∧ w.cell? ⟨b, 2, none⟩ = some (.int .i64 n) ∧ w.cell? ⟨b, 3, none⟩ = some sv) ∧
    w.frozen? ⟨b, 0, none⟩ = false ∧ w.frozen? ⟨b, 1, none⟩ = false ∧ w.frozen? ⟨b, 2, none⟩ = false ∧ w.frozen? ⟨b, 3, none⟩ = false :=
  ⟨⟨cell_of h rfl, cell_of h rfl, cell_of h rfl, cell_of h rfl⟩, free_of h, free_of h, free_of h, free_of h⟩
theorem LsB.new (w : World) (i t n : Int) (sv : Value) : LsB (w.alloc (.cells #[.int .i64 i, .int .i64 t, .int .i64 n, sv] 67)) w.heap.size i t n sv := heap_alloc_new w _
theorem LsB.set (h : LsB w b i t n sv) (v : Value) : LsB (w.setCell ⟨b, 3, none⟩ v) b i t n v := block_setCell (i := 3) h
theorem LsB.not_row (h : LsB w b i t n sv) {base k : Nat} {v : Value} {xs : List Value} (hr : w.ownsRow base 70 1 v k xs) : some b ≠ v.ownBlock := by
  intro e
  obtain ⟨cs, hcs⟩ := ownsRow_block hr e.symm
  unfold LsB at h
  rw [hcs] at h
  simp at h
end
/-- The list of a text. -/
def sumsOf (s : ByteArray) : List Int := (cutS s).map fun c => ((addN 0 c.data.toList : Nat) : Int)
def ofL (i t : Int) (s : ByteArray) : Ls := ⟨i, t, (s.size : Int), sumsOf s⟩
theorem sumsOf_length (s : ByteArray) : (sumsOf s).length = cutN s.size := by simp [sumsOf, cutS_length]
theorem run_lsf3 (W : World) (b : Nat) : (Instr.fieldAt 67 (.pointer (some ⟨b, 0, none⟩)) 3).run Tryd.prog W = .ok (.pointer (some ⟨b, 3, none⟩)) W := by go_simp
theorem run_loadSm (W : World) (p : Addr) (a : Option Addr) (n c : Nat) (h : W.cell? p = some (.slice a n c)) : (Instr.loadAt 65 (.pointer (some p))).run Tryd.prog W = .ok (.slice a n c) W := by go_simp
theorem run_storeSm (W : World) (p : Addr) (a : Option Addr) (n c : Nat) (u : Value) (h : W.cell? p = some u) (hf : W.frozen? p = false) : (Instr.storeAt 65 (.pointer (some p)) (.slice a n c)).run Tryd.prog W = .ok () (W.setCell p (.slice a n c)) := by go_simp
theorem call_of (W : World) (v : Value) : (callFunc 31 #[v]).run Tryd.prog W = .ok (.enter 31 #[v]) W := by go_simp
section
variable {Q : Exit → Act → World → Prop} {l : List Oper}
theorem gstep_rowS {i : Nat} {o : Oper} {a : Act} {w : World} {K : Act → World → Prop} (ho : l[i]? = some o) (hw : WantedIs l a o true) (s : Operand) (hop : o.op = .buildSlice 63 1 #[(0, s)]) (z : ByteArray) (he : a.eval s = .string z)
    (h : K (a.put o.dst (.slice (some ⟨w.heap.size, 0, none⟩) 1 1)) (w.alloc (.cells #[.string z] 9))) : Step Tryd.prog l Q i K a w :=
  gstep_value ho hw _ _ (by simp only [execOp, hop, List.map_toArray, List.map_cons, List.map_nil, he]; go_simp) h
theorem gstep_rowU {i : Nat} {o : Oper} {a : Act} {w : World} {K : Act → World → Prop} (ho : l[i]? = some o) (hw : WantedIs l a o true) (s : Operand) (hop : o.op = .buildSlice 65 1 #[(0, s)]) (z : Int) (he : a.eval s = .int .u32 z)
    (h : K (a.put o.dst (.slice (some ⟨w.heap.size, 0, none⟩) 1 1)) (w.alloc (.cells #[.int .u32 z] 70))) : Step Tryd.prog l Q i K a w :=
  gstep_value ho hw _ _ (by simp only [execOp, hop, List.map_toArray, List.map_cons, List.map_nil, he]; go_simp) h
end
theorem sumof_at {w : World} {g : Nat} {c : ByteArray} (ht : Tabs w) (hB : w.heap[g]? = some (.cells #[.string c] 9 (0, 0))) (hs : c.size ≤ maxLen) :
    Calls Tryd.prog 31 #[.slice (some ⟨g, 0, none⟩) 1 1] w fun e w' => e = .returned (.int .u32 ((addN 0 c.data.toList : Nat) : Int)) ∧ Below w.heap.size w w' := by
  refine (of_any (some ⟨g, 0, none⟩) g 0 1 [c] w ht (fun _ => ⟨rfl, lt_of_block hB⟩) (by simp) ?_ ?_).mono ?_
  · intro j hj
    match j, hj with
    | 0, _ => exact hs
  · intro j hj
    match j, hj with
    | 0, _ => exact cell_of hB rfl
  · rintro e w' ⟨he, hb⟩
    exact ⟨by rw [he]; simp [catN], hb⟩
def FOf (lb base : Nat) (sv : Value) (fin : Obj) (k : Nat) (olds : List Value) (c : ByteArray) (z : Int) : Nat → Value → World → Prop
  | 0, v, _ => v = .pointer (some ⟨lb, 3, none⟩)
  | 1, v, _ => v = sv
  | 2, v, _ => v = .string c
  | 3, v, w => ∃ g, v = .slice (some ⟨g, 0, none⟩) 1 1 ∧ w.heap[g]? = some (.cells #[.string c] 9 (0, 0)) ∧ some g ≠ sv.ownBlock
  | 4, v, _ => v = .int .u32 z
  | 5, v, w => ∃ g, v = .slice (some ⟨g, 0, none⟩) 1 1 ∧ w.heap[g]? = some (.cells #[.int .u32 z] 70 (0, 0)) ∧ some g ≠ sv.ownBlock
  | 6, v, w => SmApp base sv fin k olds z v w
  | 7, v, _ => v = .pointer (some ⟨lb, 3, none⟩)
  | _, _, _ => True
theorem FOf_keep {lb base : Nat} {sv : Value} {fin : Obj} {k : Nat} {olds : List Value} {c : ByteArray} {z : Int} {v : Value} {w w' : World} (hb : RowS sv fin w w') : ∀ i : Nat, FOf lb base sv fin k olds c z i v w → FOf lb base sv fin k olds c z i v w'
  | 0, h => h
  | 1, h => h
  | 2, h => h
  | 3, ⟨g, h1, h2, h3⟩ => ⟨g, h1, hb.lies h2 h3, h3⟩
  | 4, h => h
  | 5, ⟨g, h1, h2, h3⟩ => ⟨g, h1, hb.lies h2 h3, h3⟩
  | 6, h => SmApp.keep h hb
  | 7, h => h
  | _ + 8, _ => trivial

/-- A row of strings that can be read. -/
theorem strs_at {w : World} {base : Nat} {v : Value} {l : List ByteArray} (h : w.ownsRow base 9 1 v l.length (strCells' l)) (k : Nat) (hk : k < l.length) : ∃ g cap, v = .slice (some ⟨g, 0, none⟩) l.length cap ∧ g < w.heap.size ∧ w.cell? ⟨g, k, none⟩ = some (.string (l.getD k ByteArray.empty)) := by
  rcases h.2 with ⟨_, h0⟩ | ⟨g, cap, cur, rfl, _, hg, hn, _, hs, ht⟩
  · omega
  · refine ⟨g, cap, rfl, lt_of_block hg, ?_⟩
    have hu : (strCells' l)[k]? = some (.string (l.getD k ByteArray.empty)) := by
      unfold strCells'
      rw [List.getElem?_map, List.getElem?_eq_getElem hk, List.getD_eq_getElem?_getD, List.getElem?_eq_getElem hk]
      rfl
    rw [← ht, List.getElem?_take_of_lt (by omega)] at hu
    exact cell_of hg (by simpa using hu)
/-- What a round of Of's loop starts from. -/
def OfR (m : Nat) (w : World) (rb lb : Nat) (i t n : Int) (vs : Value) (cs : List ByteArray) (k : Nat) (wr : World) : Prop :=
  ∃ sv, LsB wr lb i t n sv ∧ LsB wr rb 0 0 0 (.slice none 0 0) ∧ wr.ownsRow m 70 1 sv k (smCells ((cs.map fun c => ((addN 0 c.data.toList : Nat) : Int)).take k)) ∧ wr.ownsRow m 9 1 vs cs.length (strCells' cs) ∧ Below m w wr
def setLs (w : World) (b : Nat) (i t n : Int) (sv : Value) : World := (((w.setCell ⟨b, 0, none⟩ (.int .i64 i)).setCell ⟨b, 1, none⟩ (.int .i64 t)).setCell ⟨b, 2, none⟩ (.int .i64 n)).setCell ⟨b, 3, none⟩ sv
theorem LsB.setAll {w : World} {b : Nat} {i t n : Int} {sv : Value} (h : LsB w b i t n sv) (i' t' n' : Int) (sv' : Value) : LsB (setLs w b i' t' n' sv') b i' t' n' sv' := by
  have h0 : w.heap[b]? = some (.cells #[.int .i64 i, .int .i64 t, .int .i64 n, sv] 67 (0, 0)) := h
  have h1 := block_setCell (i := 0) (u := .int .i64 i') h0
  have h2 := block_setCell (i := 1) (u := .int .i64 t') h1
  have h3 := block_setCell (i := 2) (u := .int .i64 n') h2
  exact block_setCell (i := 3) (u := sv') h3
theorem setLs_other {w : World} {b k : Nat} {i t n : Int} {sv : Value} (h : k ≠ b) : (setLs w b i t n sv).heap[k]? = w.heap[k]? :=
  ((block_setCell_other h).trans ((block_setCell_other h).trans ((block_setCell_other h).trans (block_setCell_other h))))
theorem below_setLs {m : Nat} {a w : World} {b : Nat} (h : Below m a w) (hb : m ≤ b) (i t n : Int) (sv : Value) : Below m a (setLs w b i t n sv) :=
  (((h.setCell (p := ⟨b, 0, none⟩) hb _).setCell (p := ⟨b, 1, none⟩) hb _).setCell (p := ⟨b, 2, none⟩) hb _).setCell (p := ⟨b, 3, none⟩) hb _
theorem ofret (A : Act) (W : World) (b : Nat) (i t n : Int) (sv : Value) (Q : Ending → World → Prop) (h2 : A.tmps.getD 6 undef = .pointer (some ⟨b, 0, none⟩)) (hd : A.defers = []) (hr : LsB W b i t n sv)
    (hq : Q (.returned (.agg #[.int .i64 i, .int .i64 t, .int .i64 n, sv])) W) : bodyPost Tryd.prog Tryd.f30 Q Exit.ret A W := by
  obtain ⟨⟨c0, c1, c2, c3⟩, _⟩ := hr.cells
  have e2 : A.tmps[6]?.getD undef = .pointer (some ⟨b, 0, none⟩) := by simpa using h2
  exact bodyPost_ret (v := .agg #[.int .i64 i, .int .i64 t, .int .i64 n, sv]) (by simp [results, Tryd.results30, go_sem, e2, c0, c1, c2, c3]) hd hq
set_option maxHeartbeats 4000000 in
theorem cof_any (i t : Int) (s : ByteArray) (hs : s.size ≤ 100000000) (w : World) (hT : Tabs w) :
    Calls Tryd.prog 30 #[.int .i64 i, .int .i64 t, .string s] w fun e w' => ∃ sv, e = .returned (lsV (ofL i t s) sv) ∧ w'.ownsRow w.heap.size 70 1 sv (sumsOf s).length (smCells (sumsOf s)) ∧ Below w.heap.size w w' := by
  have B1 := ((Below.refl w.heap.size w).alloc (Nat.le_refl _) (.cells #[.int .i64 0, .int .i64 0, .int .i64 0, .slice none 0 0] 67)).alloc (by simp) (.cells #[.int .i64 i, .int .i64 t, .int .i64 (s.size : Int), .slice none 0 0] 67)
  have L1 := LsB.new (w.alloc (.cells #[.int .i64 0, .int .i64 0, .int .i64 0, .slice none 0 0] 67)) i t (s.size : Int) (.slice none 0 0)
  have R1 := (LsB.new w 0 0 0 (.slice none 0 0)).below ((Below.refl _ (w.alloc (.cells #[.int .i64 0, .int .i64 0, .int .i64 0, .slice none 0 0] 67))).alloc (Nat.le_refl _) (.cells #[.int .i64 i, .int .i64 t, .int .i64 (s.size : Int), .slice none 0 0] 67))
  rw [World.size_alloc] at L1
  have hsz : s.size ≤ 9223372036854775807 := by omega
  have HT := Lib.hid (fun (x : World) (hb : Below w.heap.size w x) => hT.below hb)
  clear hT
  go_enter Tryd.func30, Tryd.ntmps30
  go_upto_region 2 with fail
  generalize (w.alloc (.cells #[.int .i64 0, .int .i64 0, .int .i64 0, .slice none 0 0] 67)).alloc (.cells #[.int .i64 i, .int .i64 t, .int .i64 (s.size : Int), .slice none 0 0] 67) = w1 at L1 R1 B1 ⊢
  go_wp2_with fail
  refine (cut_any s (by omega) w1).mono ?_
  rintro e w2 ⟨vs, rfl, hvs, hb2⟩
  have hvs' : w2.ownsRow w.heap.size 9 1 vs (cutS s).length (strCells' (cutS s)) := ⟨hvs.1, hvs.2.imp id (fun ⟨g, cp, cur, e1, e2, e3⟩ => ⟨g, cp, cur, e1, Nat.le_trans B1.size e2, e3⟩)⟩
  have RO : OfR w.heap.size w w.heap.size (w.heap.size + 1) i t (s.size : Int) vs (cutS s) 0 w2 := ⟨.slice none 0 0, L1.below hb2, R1.below hb2, World.ownsRow_nil _ _ _ _, hvs', B1.trans (hb2.mono B1.size)⟩
  obtain ⟨va, vcap, rfl⟩ := slice_of hvs
  have hcl := cutS_length s
  have hcn : (cutS s).length ≤ 250001 := by rw [hcl]; unfold cutN; omega
  clear L1 R1 B1 hb2 hvs hvs' hcl
  go_wp2_with fail
  go_loopw [18] (fun z wr => ∃ k : Nat, k ≤ (cutS s).length ∧ z = .int .i64 (k : Int) ∧ OfR w.heap.size w w.heap.size (w.heap.size + 1) i t (s.size : Int) (.slice va (cutS s).length vcap) (cutS s) k wr) (fun z _ => (cutS s).length - (intOf z).toNat)
  case atStart => exact ⟨0, Nat.zero_le _, rfl, RO⟩
  case round =>
    obtain ⟨k, hk, rfl, sv, Lk, Rk, Sk, Vk, Bk⟩ := hrel
    clear RO
    by_cases hlt : k < (cutS s).length
    · have hlt' : (k : Int) < ((cutS s).length : Int) := by omega
      have hk0 : (0 : Int) ≤ (k : Int) := by omega
      obtain ⟨g, vcap', hv, hgl, hcell⟩ := strs_at Vk k hlt
      have hva : va = some ⟨g, 0, none⟩ := by injection hv
      subst hva
      obtain ⟨c, hc⟩ : ∃ c, c = (cutS s).getD k ByteArray.empty := ⟨_, rfl⟩
      have hcs : c.size ≤ maxLen := by
        rw [hc, List.getD_eq_getElem?_getD]
        unfold cutS
        rw [List.getElem?_map, List.getElem?_range (by rw [cutS_length] at hlt; exact hlt)]
        show (cutAt s k).size ≤ _
        rw [cutAt_size]
        unfold maxLen
        omega
      rw [← hc] at hcell
      obtain ⟨z, hz⟩ : ∃ z : Int, z = ((addN 0 c.data.toList : Nat) : Int) := ⟨_, rfl⟩
      obtain ⟨fin, hfin⟩ := isFin z Sk
      obtain ⟨sa, scap, rfl⟩ := slice_of Sk
      have hneL := Lk.not_row Sk
      have hneR := Rk.not_row Sk
      have hso : ∀ j, (Value.slice sa k scap).ownBlock = some j → w.heap.size ≤ j ∧ j < wr.heap.size := fun j hj => World.ownsRow.lt Sk j hj
      have HL3 := Lib.hid (fun (W : World) (h : RowS (.slice sa k scap) fin wr.drew W) => show W.cell? ⟨w.heap.size + 1, 3, none⟩ = some (.slice sa k scap) from (show LsB W (w.heap.size + 1) i t (s.size : Int) (.slice sa k scap) from h.lies (show wr.drew.heap[w.heap.size + 1]? = _ from Lk) hneL).cells.1.2.2.2)
      have HL4 := Lib.hid (fun (W : World) (h : RowS (.slice sa k scap) fin wr.drew W) => show LsB W (w.heap.size + 1) i t (s.size : Int) (.slice sa k scap) from h.lies (show wr.drew.heap[w.heap.size + 1]? = _ from Lk) hneL)
      have HR4 := Lib.hid (fun (W : World) (h : RowS (.slice sa k scap) fin wr.drew W) => show LsB W w.heap.size 0 0 0 (.slice none 0 0) from h.lies (show wr.drew.heap[w.heap.size]? = _ from Rk) hneR)
      have HOWN := Lib.hid (fun (W : World) (h : RowS (.slice sa k scap) fin wr.drew W) => show some W.heap.size ≠ (Value.slice sa k scap).ownBlock from fun e => by have := (hso _ e.symm).2; have := h.size; have : wr.drew.heap.size = wr.heap.size := rfl; omega)
      have HOL := Lib.hid (fun (W : World) (h : RowS (.slice sa k scap) fin wr.drew W) => show ∀ j, (Value.slice sa k scap).ownBlock = some j → j < W.heap.size from fun j hj => by have := (hso _ hj).2; have := h.size; have : wr.drew.heap.size = wr.heap.size := rfl; omega)
      have HBW := Lib.hid (fun (W : World) (h : RowS (.slice sa k scap) fin wr.drew W) => show Below w.heap.size w W from Bk.trans (((Below.refl _ wr).drew).trans (h.below Bk.size (fun j hj => (hso j hj).1))))
      have HOF := Lib.hid (fun (W : World) (h : RowS (.slice sa k scap) fin wr.drew W) (g' : Nat) (hB : W.heap[g']? = some (.cells #[.string c] 9 (0, 0))) => sumof_at (HT.out W (HBW.out W h)) hB hcs)
      rw [← hz] at HOF
      have HRW : Hid (wr.drew.ownsRow w.heap.size 70 1 (.slice sa k scap) k (smCells ((sumsOf s).take k))) := Sk
      have HFN : Hid (IsFin wr.drew (.slice sa k scap) k z fin) := hfin
      have HKN : Hid (k ≤ 1000000) := by show k ≤ 1000000; omega
      have HBS : Hid (w.heap.size ≤ wr.drew.heap.size) := Bk.size
      have HVK := Lib.hid (fun (W : World) (h : RowS (.slice sa k scap) fin wr.drew W) => show W.ownsRow w.heap.size 9 1 (.slice (some ⟨g, 0, none⟩) (cutS s).length vcap) (cutS s).length (strCells' (cutS s)) from ownsRow_same (w := wr.drew) Vk (fun j hj => h.block j (World.ownsRow.lt Vk j hj).2 (fun e => by
        obtain ⟨c1, h1⟩ := ownsRow_block Vk hj
        obtain ⟨c2, h2⟩ := ownsRow_block Sk e.symm
        rw [h1] at h2
        simp at h2)))
      have HZS : Hid (smCells ((sumsOf s).take k) ++ [.int .u32 z] = smCells ((sumsOf s).take (k + 1))) := by
        show _ = _
        have hkl : k < (sumsOf s).length := by rw [sumsOf_length, ← cutS_length]; exact hlt
        have hz2 : (sumsOf s)[k]? = some z := by
          unfold sumsOf
          rw [List.getElem?_map, List.getElem?_eq_getElem hlt, hz, hc, List.getD_eq_getElem?_getD, List.getElem?_eq_getElem hlt]
          rfl
        rw [List.take_add_one, hz2, smCells_append]
        rfl
      have HCN := Lib.hid hcn
      clear Lk Rk Sk Vk Bk hfin hneL hneR hso hz hc hcs
      go_upto_region 5 with fail
      refine wp_region_steps_tail 8 0 (FOf (w.heap.size + 1) w.heap.size (.slice sa k scap) fin k (smCells ((sumsOf s).take k)) c z) (RowS (.slice sa k scap) fin) (by kernel_rfl) (by kernel_rfl) (by kernel_rfl) (by kernel_rfl) (by kernel_rfl) (by kernel_rfl) (RowS.refl _ _ _) ?_ (fun u v w h1 h2 => h1.trans h2) ?_ ?_
      · intro i v w w' _ h1 h2
        exact FOf_keep h2 i h1
      · intro i o hi ho x w1 hR hF hX
        match i, ho with
            | 0, ho =>
              obtain rfl := Option.some.inj ho
              exact gstep_field rfl (wanted0 rfl) _ _ _ rfl _ (eval_of 7 _ (by kernel_rfl) rfl) _ (run_lsf3 w1 _) ⟨_, rfl, rfl, RowS.refl _ _ _⟩
            | 1, ho =>
              obtain rfl := Option.some.inj ho
              exact gstep_load rfl (wanted0 rfl) _ _ rfl _ (eval_at 22 0 _ (by kernel_rfl) (show 22 < 32 by decide) (hF 0 (by kernel_rfl))) _ (run_loadSm w1 _ _ _ _ (HL3.out w1 hR)) ⟨_, rfl, rfl, RowS.refl _ _ _⟩
            | 2, ho =>
              obtain rfl := Option.some.inj ho
              exact gstep_move rfl (wanted0 rfl) _ rfl _ (eval_of 9 _ (by kernel_rfl) rfl) ⟨_, rfl, rfl, RowS.refl _ _ _⟩
            | 3, ho =>
              obtain rfl := Option.some.inj ho
              exact gstep_rowS rfl (wanted0 rfl) _ rfl _ (eval_at 24 2 _ (by kernel_rfl) (show 24 < 32 by decide) (hF 2 (by kernel_rfl))) ⟨_, rfl, ⟨w1.heap.size, rfl, heap_alloc_new w1 _, HOWN.out w1 hR⟩, RowS.of_below ((Below.refl _ _).alloc (Nat.le_refl _) _) (HOL.out w1 hR)⟩
            | 4, ho =>
              obtain rfl := Option.some.inj ho
              obtain ⟨g, hg, hB, hne⟩ := hF 3 (by kernel_rfl)
              refine gstep_call rfl (wanted0 rfl) _ _ _ rfl _ (eval_at 25 3 _ (by kernel_rfl) (show 25 < 32 by decide) hg) (call_of w1 _) ?_
              refine (HOF.out w1 hR g hB).mono ?_
              rintro e w2 ⟨rfl, hb⟩
              exact ⟨_, rfl, _, rfl, rfl, RowS.of_below hb (HOL.out w1 hR)⟩
            | 5, ho =>
              obtain rfl := Option.some.inj ho
              exact gstep_rowU rfl (wanted0 rfl) _ rfl _ (eval_at 26 4 _ (by kernel_rfl) (show 26 < 32 by decide) (hF 4 (by kernel_rfl))) ⟨_, rfl, ⟨w1.heap.size, rfl, heap_alloc_new w1 _, HOWN.out w1 hR⟩, RowS.of_below ((Below.refl _ _).alloc (Nat.le_refl _) _) (HOL.out w1 hR)⟩
            | 6, ho =>
              obtain rfl := Option.some.inj ho
              obtain ⟨g, hg, hB, hne⟩ := hF 5 (by kernel_rfl)
              exact gstep_sums rfl (wanted0 rfl) rfl _ _ rfl _ _ _ _ _ HRW.out z fin HFN.out hR (eval_at 23 1 _ (by kernel_rfl) (show 23 < 32 by decide) (hF 1 (by kernel_rfl))) g (eval_at 27 5 _ (by kernel_rfl) (show 27 < 32 by decide) hg) hB HKN.out HBS.out (fun v' w' h1 h2 => ⟨_, rfl, h1, h2⟩)
            | 7, ho =>
              obtain rfl := Option.some.inj ho
              exact gstep_field rfl (wanted0 rfl) _ _ _ rfl _ (eval_of 7 _ (by kernel_rfl) rfl) _ (run_lsf3 w1 _) ⟨_, rfl, rfl, RowS.refl _ _ _⟩
            | n + 8, ho => exact absurd hi (by omega)
      · intro x' w5 hR hF
        have h6 := hF 6 (by decide)
        have h7 := hF 7 (by decide)
        obtain ⟨na, nc, hn6⟩ := slice_of h6.1
        have h6' : x' 6 = .slice na (k + 1) nc := hn6
        unfold FOf at h7
        have L5 := HL4.out w5 hR
        have L6 := L5.set (.slice na (k + 1) nc)
        have hlr : w.heap.size ≠ w.heap.size + 1 := by omega
        have R6 : LsB (w5.setCell ⟨w.heap.size + 1, 3, none⟩ (.slice na (k + 1) nc)) w.heap.size 0 0 0 (.slice none 0 0) := (block_setCell_other hlr).trans (HR4.out w5 hR)
        have S6 : (w5.setCell ⟨w.heap.size + 1, 3, none⟩ (.slice na (k + 1) nc)).ownsRow w.heap.size 70 1 (.slice na (k + 1) nc) (k + 1) (smCells ((sumsOf s).take (k + 1))) := by
          rw [← HZS.out]
          have h8 := h6.1
          rw [h6'] at h8
          have hne8 := L5.not_row h8
          exact ownsRow_same h8 (fun j hj => block_setCell_other (fun e => hne8 (by rw [hj, e])))
        have hnV : some (w.heap.size + 1) ≠ (Value.slice (some ⟨g, 0, none⟩) (cutS s).length vcap).ownBlock := fun e => by
          obtain ⟨c1, h1⟩ := ownsRow_block (HVK.out w5 hR) e.symm
          unfold LsB at L5
          rw [h1] at L5
          simp at L5
        have V6 : (w5.setCell ⟨w.heap.size + 1, 3, none⟩ (.slice na (k + 1) nc)).ownsRow w.heap.size 9 1 (.slice (some ⟨g, 0, none⟩) (cutS s).length vcap) (cutS s).length (strCells' (cutS s)) :=
          ownsRow_same (HVK.out w5 hR) (fun j hj => block_setCell_other (fun e => hnV (by rw [hj, e])))
        have B6 := (HBW.out w5 hR).setCell (p := ⟨w.heap.size + 1, 3, none⟩) (by show w.heap.size ≤ w.heap.size + 1; omega) (.slice na (k + 1) nc)
        refine gstep_store rfl (wanted0 rfl) _ _ _ rfl _ _ (eval_at 29 7 _ (by kernel_rfl) (show 29 < 32 by decide) h7) (eval_at 28 6 _ (by kernel_rfl) (show 28 < 32 by decide) h6') _ (run_storeSm w5 _ _ _ _ _ L5.cells.1.2.2.2 L5.cells.2.2.2.2) ?_
        unfold tailK
        simp only [putAll, Act.put, List.setIfInBounds_toArray, List.set_cons_succ, List.set_cons_zero]
        have RR : OfR w.heap.size w w.heap.size (w.heap.size + 1) i t (s.size : Int) (.slice (some ⟨g, 0, none⟩) (cutS s).length vcap) (cutS s) (k + 1) (w5.setCell ⟨w.heap.size + 1, 3, none⟩ (.slice na (k + 1) nc)) := ⟨_, L6, R6, S6, V6, B6⟩
        generalize w5.setCell ⟨w.heap.size + 1, 3, none⟩ (.slice na (k + 1) nc) = w6 at RR ⊢
        clear hR hF h6 h7 hn6 h6' L5 L6 R6 S6 V6 B6 HL3 HL4 HR4 HOWN HOL HBW HOF HRW HFN HBS HVK HZS
        go_wp2_with fail
        go_roundw
        case rel => exact ⟨k + 1, by omega, by go_num, RR⟩
        case measure => simp [intOf]; omega
    · obtain rfl : k = (cutS s).length := by omega
      have HS : Hid (wr.ownsRow w.heap.size 70 1 sv (sumsOf s).length (smCells (sumsOf s))) := by
        have e : (sumsOf s).length = (cutS s).length := by simp [sumsOf]
        have e2 : (sumsOf s).take (cutS s).length = sumsOf s := by rw [← e, List.take_length]
        have h := Sk
        rw [show (cutS s).map (fun c => ((addN 0 c.data.toList : Nat) : Int)) = sumsOf s from rfl, e2, ← e] at h
        exact h
      obtain ⟨sa, scap, rfl⟩ := slice_of Sk
      obtain ⟨⟨l0, l1, l2, l3⟩, _⟩ := Lk.cells
      obtain ⟨⟨r0, r1, r2, r3⟩, q0, q1, q2, q3⟩ := Rk.cells
      have HSL : Hid ((sumsOf s).length = (cutS s).length) := by show _ = _; simp [sumsOf]
      have HR := Lib.hid Rk
      have HB := Lib.hid Bk
      clear hlt Sk Vk Lk Rk Bk
      go_wp2_with fail
      have RF := HR.out.setAll i t (s.size : Int) (.slice sa (cutS s).length scap)
      refine ofret _ (setLs wr w.heap.size i t (s.size : Int) (.slice sa (cutS s).length scap)) w.heap.size i t (s.size : Int) (.slice sa (cutS s).length scap) _ rfl rfl RF ⟨_, rfl, ?_, below_setLs HB.out (Nat.le_refl _) _ _ _ _⟩
      have hne := HR.out.not_row HS.out
      exact ownsRow_same HS.out (fun j hj => setLs_other (fun e => hne (by rw [hj, e])))
end Go.Proofs.YtiknfifiglooeaaDoor
