/- Law 6's Entries: the entries that an act appends. No conditions beyond those in each statement. -/
import Derived.Test.YtigebaaldikeaaaDoorPlogRgt
import Derived.Test.YtigebaaldikeaaaDoorInvar5
import Derived.Deep.AppendLies
namespace Go.Proofs.YtigebaaldikeaaaDoor
open Go Go.RowKit Go.Proofs.Tryd
set_option linter.unusedVariables false
set_option maxRecDepth 100000

/-- An act of law 6; its fates are apart. -/
structure Ac6 where
  k : Int
  n : Int
  term : Int
  back : Int
  fall : Int
  data : ByteArray
def actV (a : Ac6) (fv : Value) : Value := .agg #[.int .i64 a.k, .int .i64 a.n, .int .i64 a.term, .int .i64 a.back, .int .i64 a.fall, .string a.data, fv]
def ActB (w : World) (g : Nat) (a : Ac6) (fv : Value) : Prop := w.heap[g]? = some (.cells #[.int .i64 a.k, .int .i64 a.n, .int .i64 a.term, .int .i64 a.back, .int .i64 a.fall, .string a.data, fv] 46 (0, 0))
theorem ActB.cells {w : World} {g : Nat} {a : Ac6} {fv : Value} (h : ActB w g a fv) : w.cell? ⟨g, 0, none⟩ = some (.int .i64 a.k) ∧ w.cell? ⟨g, 1, none⟩ = some (.int .i64 a.n) ∧ w.cell? ⟨g, 2, none⟩ = some (.int .i64 a.term) ∧ w.cell? ⟨g, 3, none⟩ = some (.int .i64 a.back) ∧ w.cell? ⟨g, 4, none⟩ = some (.int .i64 a.fall) ∧ w.cell? ⟨g, 5, none⟩ = some (.string a.data) ∧ w.cell? ⟨g, 6, none⟩ = some fv :=
  ⟨cell_of h rfl, cell_of h rfl, cell_of h rfl, cell_of h rfl, cell_of h rfl, cell_of h rfl, cell_of h rfl⟩
theorem ActB.lt {w : World} {g : Nat} {a : Ac6} {fv : Value} (h : ActB w g a fv) : g < w.heap.size := lt_of_block h
theorem ActB.below {w w' : World} {g : Nat} {a : Ac6} {fv : Value} (h : ActB w g a fv) (k : Below w.heap.size w w') : ActB w' g a fv := (k.block g h.lt).trans h
theorem ActB.new (w : World) (a : Ac6) (fv : Value) : ActB (w.alloc (.cells #[.int .i64 a.k, .int .i64 a.n, .int .i64 a.term, .int .i64 a.back, .int .i64 a.fall, .string a.data, fv] 46)) w.heap.size a fv := heap_alloc_new w _
def bJ (j : Nat) : UInt8 := UInt8.ofNat j
/-- The entries of an act. -/
def entE (a : Ac6) (f : Int) (j : Nat) : En := ⟨f + (j : Int), 1 + a.term % 65536, a.data ++ ⟨#[bJ j]⟩⟩
def entsA (a : Ac6) (f : Int) (k : Nat) : List En := (List.range k).map (entE a f)
theorem entsA_length (a : Ac6) (f : Int) (k : Nat) : (entsA a f k).length = k := by simp [entsA]
theorem entsA_succ (a : Ac6) (f : Int) (k : Nat) : entsA a f (k + 1) = entsA a f k ++ [entE a f k] := by unfold entsA; rw [List.range_succ, List.map_append]; rfl
theorem bJ_cells (j : Nat) (hj : j ≤ 255) : cellsOf [bJ j] = [.int .u8 (j : Int)] := by
  unfold cellsOf bJ
  simp
  omega
theorem u8_in' (z : Int) (h : 0 ≤ z ∧ z ≤ 255) : IntKind.u8.wrap z = z := by rw [IntKind.wrap_u8]; omega
theorem run_wldf2 (W : World) (b : Nat) : (Instr.fieldAt 52 (.pointer (some ⟨b, 0, none⟩)) 2).run Tryd.prog W = .ok (.pointer (some ⟨b, 2, none⟩)) W := by go_simp
theorem run_actf2 (W : World) (b : Nat) : (Instr.fieldAt 46 (.pointer (some ⟨b, 0, none⟩)) 2).run Tryd.prog W = .ok (.pointer (some ⟨b, 2, none⟩)) W := by go_simp
theorem run_actf5 (W : World) (b : Nat) : (Instr.fieldAt 46 (.pointer (some ⟨b, 0, none⟩)) 5).run Tryd.prog W = .ok (.pointer (some ⟨b, 5, none⟩)) W := by go_simp
theorem run_addI (W : World) (x y z : Int) (h : IntKind.i64.wrap (x + y) = z) (s1 s2 : Operand) : (do eqGuard .add 3 s1 s2 (.int .i64 x) (.int .i64 y); binOp .add 3 (.int .i64 x) (.int .i64 y) : Sem Value).run Tryd.prog W = .ok (.int .i64 z) W := by go_simp
theorem run_andI (W : World) (x y z : Int) (h : bits .and .i64 x y = z) (s1 s2 : Operand) : (do eqGuard .and 3 s1 s2 (.int .i64 x) (.int .i64 y); binOp .and 3 (.int .i64 x) (.int .i64 y) : Sem Value).run Tryd.prog W = .ok (.int .i64 z) W := by go_simp
theorem run_addS (W : World) (x y : ByteArray) (h : x.size + y.size ≤ 100000) (s1 s2 : Operand) : (do eqGuard .add 9 s1 s2 (.string x) (.string y); binOp .add 9 (.string x) (.string y) : Sem Value).run Tryd.prog W = .ok (.string (x ++ y)) W := by
  have h2 : x.size + y.size ≤ 9223372036854775807 := by omega
  go_simp
section
variable {Q : Exit → Act → World → Prop} {l : List Oper}
theorem gstep_byte {i : Nat} {o : Oper} {a : Act} {w : World} {K : Act → World → Prop} (ho : l[i]? = some o) (hw : WantedIs l a o true) (s : Operand) (hop : o.op = .convert 3 5 s) {k : Nat} (hk : k ≤ 255) (he : a.eval s = .int .i64 (k : Int))
    (h : K (a.put o.dst (.int .u8 (k : Int))) w) : Step Tryd.prog l Q i K a w :=
  gstep_value ho hw _ w (by
    have hk' : IntKind.u8.wrap (k : Int) = (k : Int) := by rw [IntKind.wrap_u8]; omega
    simp only [execOp, hop, he]; go_simp) h
theorem gstep_rowB {i : Nat} {o : Oper} {a : Act} {w : World} {K : Act → World → Prop} (ho : l[i]? = some o) (hw : WantedIs l a o true) (s : Operand) (hop : o.op = .buildSlice 90 1 #[(0, s)]) (z : Int) (he : a.eval s = .int .u8 z)
    (h : K (a.put o.dst (.slice (some ⟨w.heap.size, 0, none⟩) 1 1)) (w.alloc (.cells #[.int .u8 z] 5))) : Step Tryd.prog l Q i K a w :=
  gstep_value ho hw _ _ (by simp only [execOp, hop, List.map_toArray, List.map_cons, List.map_nil, he]; go_simp) h
theorem gstep_strB {i : Nat} {o : Oper} {a : Act} {w : World} {K : Act → World → Prop} (ho : l[i]? = some o) (hw : WantedIs l a o true) (s : Operand) (hop : o.op = .convert 90 9 s) (g k : Nat) (he : a.eval s = .slice (some ⟨g, 0, none⟩) 1 1) (hk : k ≤ 255) (hg : w.heap[g]? = some (.cells #[.int .u8 (k : Int)] 5 (0, 0)))
    (h : K (a.put o.dst (.string ⟨#[bJ k]⟩)) w) : Step Tryd.prog l Q i K a w :=
  gstep_value ho hw _ w (by
    have hs : Src w (.slice (some ⟨g, 0, none⟩) [bJ k].length 1) [bJ k] := by
      refine ⟨_, 1, rfl, .inr ⟨_, rfl, fun j x hx => ?_⟩⟩
      rw [bJ_cells k (by omega)] at hx
      rw [show (Addr.add ⟨g, 0, none⟩ j : Addr) = ⟨g, j, none⟩ by simp [Addr.add]; omega]
      simp only [World.cell?, hg]
      rcases j with _ | j
      · simpa using hx
      · simp at hx
    have hrun : (convert 90 9 (.slice (some ⟨g, 0, none⟩) 1 1)).run Tryd.prog w = .ok (.string ⟨#[bJ k]⟩) w := run_str hs
    simp only [execOp, hop, he, Sem.run_bind, hrun, Sem.run_pure, Result.andThen_ok]) h
theorem gstep_mkE {i : Nat} {o : Oper} {a : Act} {w : World} {K : Act → World → Prop} (ho : l[i]? = some o) (hw : WantedIs l a o true) (s1 s2 s3 : Operand) (hop : o.op = .build 60 #[(0, s1), (1, s2), (2, s3)]) (x y : Int) (d : ByteArray) (e : En) (h1 : a.eval s1 = .int .i64 x) (h2 : a.eval s2 = .int .i64 y) (h3 : a.eval s3 = .string d) (he : e = ⟨x, y, d⟩)
    (h : K (a.put o.dst (enV e)) w) : Step Tryd.prog l Q i K a w := by
  subst he
  exact gstep_value ho hw _ w (by unfold enV; simp only [execOp, hop, List.map_toArray, List.map_cons, List.map_nil, h1, h2, h3]; go_simp) h
theorem gstep_more {i : Nat} {o : Oper} {a : Act} {w : World} {K : Act → World → Prop} (ho : l[i]? = some o) (hw : WantedIs l a o true) (hg : o.guard = none) (s x : Operand) (hop : o.op = .call { callee := .builtin .append, args := #[s, x], argTypes := #[50, 50] })
    (base : Nat) (v : Value) (n : Nat) (olds : List Value) (hs : a.eval s = v) (hown : w.ownsRow base 60 3 v n olds) (g : Nat) (e : En) (hx : a.eval x = .slice (some ⟨g, 0, none⟩) 1 1) (he : EnB w g e) (hn : n ≤ 10000) (hbase : base ≤ w.heap.size)
    (hK : ∀ v' w', w'.ownsRow base 60 3 v' (n + 1) (olds ++ enCells [e]) → w.grownBy w' v.ownBlock → K (a.put o.dst v') w') : Step Tryd.prog l Q i K a w := by
  obtain ⟨i0, hi0, hz0, hz1, hz2⟩ := info_parts info_en
  have hc : ∀ (j : Nat) (u : Value), (enCells [e])[j]? = some u → w.cell? (Addr.add ⟨g, 0, none⟩ j) = some u := World.news_of_block (cs := #[.int .i64 e.index, .int .i64 e.term, .string e.data]) (t := 60) (fr := (0, 0)) he
  refine ⟨?_⟩
  unfold wpOp
  rw [show l.toArray[i]? = some o by simpa using ho]
  have h := step_append_lies (P := Tryd.prog) (w := w) (K := K) (Q := Q) (ops := l.toArray) (E := True) hg s x _ hop base 60 i0 _ 3 32 und_ens hi0 hz0 hz1 hz2 rfl (by decide) v n olds hs hown ⟨g, 0, none⟩ 1 1 (enCells [e]) hx rfl hc (enCells_one _) (by decide) (by unfold maxLen; omega) (by omega) hbase w.heap.size rfl
    (fun g' cap' w' h1 h2 _ _ => hK _ w' h1 h2)
  have hw' : Region.wanted o (yielded l.toArray a.tmps) = true := hw
  rw [if_pos hw'] at h
  show (if Region.wanted o (yielded l.toArray a.tmps) = true then _ else _)
  rw [if_pos hw']
  exact .inl h
end
def FEn (wb ga : Nat) (ao : Option Addr) (len cap : Nat) (first tm tt : Int) (d : ByteArray) (k : Nat) (u : Value) (e : En) : Nat → Value → World → Prop
  | 0, v, _ => v = u
  | 1, v, _ => v = .pointer (some ⟨wb, 0, none⟩)
  | 2, v, _ => v = .pointer (some ⟨wb, 0, none⟩)
  | 3, v, _ => v = .pointer (some ⟨wb, 2, none⟩)
  | 4, v, _ => v = .int .i64 first
  | 5, v, _ => v = .pointer (some ⟨wb, 0, none⟩)
  | 6, v, _ => v = .pointer (some ⟨wb, 0, none⟩)
  | 7, v, _ => v = .pointer (some ⟨wb, 3, none⟩)
  | 8, v, _ => v = .slice ao len cap
  | 9, v, _ => v = .int .i64 (len : Int)
  | 10, v, _ => v = .int .i64 (first + (len : Int))
  | 11, v, _ => v = .int .i64 (k : Int)
  | 12, v, _ => v = .int .i64 (first + (len : Int) + (k : Int))
  | 13, v, _ => v = .pointer (some ⟨ga, 2, none⟩)
  | 14, v, _ => v = .int .i64 tm
  | 15, v, _ => v = .int .i64 tt
  | 16, v, _ => v = .int .i64 (1 + tt)
  | 17, v, _ => v = .pointer (some ⟨ga, 5, none⟩)
  | 18, v, _ => v = .string d
  | 19, v, _ => v = .int .i64 (k : Int)
  | 20, v, _ => v = .int .u8 (k : Int)
  | 21, v, w => ∃ g, v = .slice (some ⟨g, 0, none⟩) 1 1 ∧ w.heap[g]? = some (.cells #[.int .u8 (k : Int)] 5 (0, 0))
  | 22, v, _ => v = .string ⟨#[bJ k]⟩
  | 23, v, _ => v = .string (d ++ ⟨#[bJ k]⟩)
  | 24, v, _ => v = enV e
  | 25, v, w => ∃ g, v = .slice (some ⟨g, 0, none⟩) 1 1 ∧ EnB w g e
  | _, _, _ => True
theorem FEn_keep {wb ga : Nat} {ao : Option Addr} {len cap : Nat} {first tm tt : Int} {d : ByteArray} {k : Nat} {u : Value} {e : En} {v : Value} {w w' : World} (hb : Below w.heap.size w w') : ∀ i : Nat, FEn wb ga ao len cap first tm tt d k u e i v w → FEn wb ga ao len cap first tm tt d k u e i v w'
  | 0, h => h
  | 1, h => h
  | 2, h => h
  | 3, h => h
  | 4, h => h
  | 5, h => h
  | 6, h => h
  | 7, h => h
  | 8, h => h
  | 9, h => h
  | 10, h => h
  | 11, h => h
  | 12, h => h
  | 13, h => h
  | 14, h => h
  | 15, h => h
  | 16, h => h
  | 17, h => h
  | 18, h => h
  | 19, h => h
  | 20, h => h
  | 21, ⟨g, h1, h2⟩ => ⟨g, h1, (hb.block g (lt_of_block h2)).trans h2⟩
  | 22, h => h
  | 23, h => h
  | 24, h => h
  | 25, ⟨g, h1, h2⟩ => ⟨g, h1, h2.below hb⟩
  | _ + 26, _ => trivial
set_option maxHeartbeats 4000000 in
theorem ents_any {w : World} {wb B b : Nat} {first : Int} {va vm : Value} {len cap : Nat} {ao : Option Addr} (a : Ac6) (fv : Value) (nn : Nat) (hV : WldB w wb B b first va vm) (hva : va = .slice ao len cap) (hl : len ≤ 8) (hf : 1 ≤ first ∧ first ≤ 1000) (hnn : (nn : Int) = a.n % 4) (hd : a.data.size ≤ 200) :
    Calls Tryd.prog 38 #[.pointer (some ⟨wb, 0, none⟩), actV a fv] w fun e w' => ∃ v, e = .returned v ∧ w'.ownsRow w.heap.size 60 3 v nn (enCells (entsA a (first + (len : Int)) nn)) ∧ Below w.heap.size w w' := by
  subst hva
  have h3 : nn ≤ 3 := by omega
  have hn4 : bits .and .i64 a.n 3 = (nn : Int) := by rw [i64_and3, hnn]
  have ht : bits .and .i64 a.term 65535 = a.term % 65536 := i64_and65535 a.term
  obtain ⟨tt, htt⟩ : ∃ tt : Int, tt = a.term % 65536 := ⟨_, rfl⟩
  rw [← htt] at ht
  have htb : 0 ≤ tt ∧ tt ≤ 65535 := by omega
  obtain ⟨i0, hi0, hz0, hz1, hz2⟩ := info_parts info_en
  have V1 := hV.below ((Below.refl w.heap.size w).alloc (Nat.le_refl _) (.cells #[.int .i64 a.k, .int .i64 a.n, .int .i64 a.term, .int .i64 a.back, .int .i64 a.fall, .string a.data, fv] 46))
  have A1 := ActB.new w a fv
  have B1 := (Below.refl w.heap.size w).alloc (Nat.le_refl _) (.cells #[.int .i64 a.k, .int .i64 a.n, .int .i64 a.term, .int .i64 a.back, .int .i64 a.fall, .string a.data, fv] 46)
  have HTT := Lib.hid htt
  have HV0 := Lib.hid hV
  clear hnn htt hV
  unfold actV
  go_enter Tryd.func38, Tryd.ntmps38
  go_upto_region 1 with fail
  generalize w.alloc (.cells #[.int .i64 a.k, .int .i64 a.n, .int .i64 a.term, .int .i64 a.back, .int .i64 a.fall, .string a.data, fv] 46) = w1 at V1 A1 B1 ⊢
  have R2 : (w1.alloc (.cells #[] 60)).ownsRow w.heap.size 60 3 (.slice (some ⟨w1.heap.size, 0, none⟩) 0 0) 0 [] := World.ownsRow_made w1 #[] 0 B1.size (Nat.zero_le _) rfl
  have B2 := B1.alloc B1.size (.cells #[] 60)
  have bb2 := (Below.refl w1.heap.size w1).alloc (Nat.le_refl _) (.cells #[] 60)
  have V2 := V1.below bb2
  have A2 := A1.below bb2
  have hng : w.heap.size < w1.heap.size := A1.lt
  clear V1 A1 B1 bb2
  go_wp2_with fail
  go_loopw [5, 6] (fun v i wr => ∃ k : Nat, k ≤ nn ∧ i = .int .i64 (k : Int) ∧ wr.ownsRow w.heap.size 60 3 v k (enCells (entsA a (first + (len : Int)) k)) ∧ v.ownBlock ≠ some w.heap.size ∧ ActB wr w.heap.size a fv ∧ Below w.heap.size w wr) (fun _ i _ => nn - (intOf i).toNat)
  case atStart => exact ⟨0, by omega, rfl, R2, (fun e => by have h : w1.heap.size = w.heap.size := Option.some.inj e; omega), A2, B2⟩
  case round =>
    obtain ⟨k, hk, rfl, Rk, hne, Ak, Bk⟩ := hrel
    clear R2 A2 B2 V2 hng
    by_cases hlt : k < nn
    · have hlt' : (k : Int) < (nn : Int) := by omega
      have hk0 : (0 : Int) ≤ (k : Int) := by omega
      have hk3 : (k : Int) ≤ 2 := by omega
      have Vk := HV0.out.below Bk
      obtain ⟨_, p1, p2, p3, p4, p5, _⟩ := Ak.cells
      obtain ⟨_, _, v2, v3, _⟩ := Vk.cells.1
      have e1 : IntKind.i64.wrap (first + (len : Int)) = first + (len : Int) := IntWalk.i64_in _ (by omega)
      have e2 : IntKind.i64.wrap (first + (len : Int) + (k : Int)) = first + (len : Int) + (k : Int) := IntWalk.i64_in _ (by omega)
      have e3 : IntKind.i64.wrap (1 + tt) = 1 + tt := IntWalk.i64_in _ (by omega)
      have e4 : IntKind.u8.wrap (k : Int) = (k : Int) := u8_in' _ (by omega)
      obtain ⟨x, hx⟩ : ∃ x : En, x = ⟨first + (len : Int) + (k : Int), 1 + tt, a.data ++ ⟨#[bJ k]⟩⟩ := ⟨_, rfl⟩
      have hxe : x = entE a (first + (len : Int)) k := by rw [hx, HTT.out]; rfl
      have HXE := Lib.hid hxe
      have HDR : ∀ (W : World), Below wr.drew.heap.size wr.drew W → Below wr.heap.size wr W := fun W h => ((Below.refl wr.heap.size wr).drew).trans h
      have HW2 := Lib.hid (fun (W : World) (h : Below wr.drew.heap.size wr.drew W) => show W.cell? ⟨wb, 2, none⟩ = some (.int .i64 first) from (Vk.below (HDR W h)).cells.1.2.2.1)
      have HW3 := Lib.hid (fun (W : World) (h : Below wr.drew.heap.size wr.drew W) => show W.cell? ⟨wb, 3, none⟩ = some (.slice ao len cap) from (Vk.below (HDR W h)).cells.1.2.2.2.1)
      have HA2 := Lib.hid (fun (W : World) (h : Below wr.drew.heap.size wr.drew W) => show W.cell? ⟨w.heap.size, 2, none⟩ = some (.int .i64 a.term) from (Ak.below (HDR W h)).cells.2.2.1)
      have HA5 := Lib.hid (fun (W : World) (h : Below wr.drew.heap.size wr.drew W) => show W.cell? ⟨w.heap.size, 5, none⟩ = some (.string a.data) from (Ak.below (HDR W h)).cells.2.2.2.2.2.1)
      have HE1 := Lib.hid e1
      have HE2 := Lib.hid e2
      have HE3 := Lib.hid e3
      have HTT2 := Lib.hid ht
      have HK : Hid (k ≤ 255) := by show k ≤ 255; omega
      have HD : Hid (a.data.size + (⟨#[bJ k]⟩ : ByteArray).size ≤ 100000) := by show a.data.size + 1 ≤ 100000; omega
      have HEE := Lib.hid hx
      have HRK := Lib.hid Rk
      have HBK := Lib.hid Bk
      have HAK := Lib.hid Ak
      have HVK := Lib.hid Vk
      have HNE := Lib.hid hne
      have HL := Lib.hid (entsA_length a (first + (len : Int)) k)
      go_upto_region 5 with fail
      refine wp_region_steps_tail 26 1 (FEn wb w.heap.size ao len cap first a.term tt a.data k u5 x) (fun w w' => Below w.heap.size w w') (by kernel_rfl) (by kernel_rfl) (by kernel_rfl) (by kernel_rfl) (by kernel_rfl) (by kernel_rfl) (Below.refl _ _) ?_ (fun u v w h1 h2 => h1.trans (h2.mono h1.size)) ?_ ?_
      · intro i v w w' _ h1 h2
        exact FEn_keep h2 i h1
      · intro i o hi ho x w1 hR hF hX
        match i, ho with
          | 0, ho =>
            obtain rfl := Option.some.inj ho
            exact gstep_move rfl (wanted0 rfl) _ rfl _ (eval_at 5 27 _ (by kernel_rfl) (show 5 < 43 by decide) ((hX 27 _ (by decide) rfl).trans rfl)) ⟨_, rfl, rfl, Below.refl _ _⟩
          | 1, ho =>
            obtain rfl := Option.some.inj ho
            exact gstep_move rfl (wanted0 rfl) _ rfl _ (eval_of 0 _ (by kernel_rfl) rfl) ⟨_, rfl, rfl, Below.refl _ _⟩
          | 2, ho =>
            obtain rfl := Option.some.inj ho
            exact gstep_nil rfl (wanted0 rfl) _ rfl _ (eval_at 16 1 _ (by kernel_rfl) (show 16 < 43 by decide) (hF 1 (by kernel_rfl))) ⟨_, rfl, rfl, Below.refl _ _⟩
          | 3, ho =>
            obtain rfl := Option.some.inj ho
            exact gstep_field rfl (wanted0 rfl) _ _ _ rfl _ (eval_at 17 2 _ (by kernel_rfl) (show 17 < 43 by decide) (hF 2 (by kernel_rfl))) _ (run_wldf2 w1 _) ⟨_, rfl, rfl, Below.refl _ _⟩
          | 4, ho =>
            obtain rfl := Option.some.inj ho
            exact gstep_load rfl (wanted0 rfl) _ _ rfl _ (eval_at 18 3 _ (by kernel_rfl) (show 18 < 43 by decide) (hF 3 (by kernel_rfl))) _ (run_loadI w1 _ _ (HW2.out w1 hR)) ⟨_, rfl, rfl, Below.refl _ _⟩
          | 5, ho =>
            obtain rfl := Option.some.inj ho
            exact gstep_move rfl (wanted0 rfl) _ rfl _ (eval_of 0 _ (by kernel_rfl) rfl) ⟨_, rfl, rfl, Below.refl _ _⟩
          | 6, ho =>
            obtain rfl := Option.some.inj ho
            exact gstep_nil rfl (wanted0 rfl) _ rfl _ (eval_at 20 5 _ (by kernel_rfl) (show 20 < 43 by decide) (hF 5 (by kernel_rfl))) ⟨_, rfl, rfl, Below.refl _ _⟩
          | 7, ho =>
            obtain rfl := Option.some.inj ho
            exact gstep_field rfl (wanted0 rfl) _ _ _ rfl _ (eval_at 21 6 _ (by kernel_rfl) (show 21 < 43 by decide) (hF 6 (by kernel_rfl))) _ (run_wldf w1 _) ⟨_, rfl, rfl, Below.refl _ _⟩
          | 8, ho =>
            obtain rfl := Option.some.inj ho
            exact gstep_load rfl (wanted0 rfl) _ _ rfl _ (eval_at 22 7 _ (by kernel_rfl) (show 22 < 43 by decide) (hF 7 (by kernel_rfl))) _ (run_loadZ w1 _ _ _ _ (HW3.out w1 hR)) ⟨_, rfl, rfl, Below.refl _ _⟩
          | 9, ho =>
            obtain rfl := Option.some.inj ho
            exact gstep_len rfl (wanted0 rfl) _ rfl _ _ _ (eval_at 23 8 _ (by kernel_rfl) (show 23 < 43 by decide) (hF 8 (by kernel_rfl))) ⟨_, rfl, rfl, Below.refl _ _⟩
          | 10, ho =>
            obtain rfl := Option.some.inj ho
            exact gstep_bin rfl (wanted0 rfl) _ _ _ _ _ rfl _ _ (eval_at 19 4 _ (by kernel_rfl) (show 19 < 43 by decide) (hF 4 (by kernel_rfl))) (eval_at 24 9 _ (by kernel_rfl) (show 24 < 43 by decide) (hF 9 (by kernel_rfl))) _ (run_addI w1 _ _ _ HE1.out _ _) ⟨_, rfl, rfl, Below.refl _ _⟩
          | 11, ho =>
            obtain rfl := Option.some.inj ho
            exact gstep_move rfl (wanted0 rfl) _ rfl _ (eval_of 6 _ (by kernel_rfl) rfl) ⟨_, rfl, rfl, Below.refl _ _⟩
          | 12, ho =>
            obtain rfl := Option.some.inj ho
            exact gstep_bin rfl (wanted0 rfl) _ _ _ _ _ rfl _ _ (eval_at 25 10 _ (by kernel_rfl) (show 25 < 43 by decide) (hF 10 (by kernel_rfl))) (eval_at 26 11 _ (by kernel_rfl) (show 26 < 43 by decide) (hF 11 (by kernel_rfl))) _ (run_addI w1 _ _ _ HE2.out _ _) ⟨_, rfl, rfl, Below.refl _ _⟩
          | 13, ho =>
            obtain rfl := Option.some.inj ho
            exact gstep_field rfl (wanted0 rfl) _ _ _ rfl _ (eval_of 3 _ (by kernel_rfl) rfl) _ (run_actf2 w1 _) ⟨_, rfl, rfl, Below.refl _ _⟩
          | 14, ho =>
            obtain rfl := Option.some.inj ho
            exact gstep_load rfl (wanted0 rfl) _ _ rfl _ (eval_at 28 13 _ (by kernel_rfl) (show 28 < 43 by decide) (hF 13 (by kernel_rfl))) _ (run_loadI w1 _ _ (HA2.out w1 hR)) ⟨_, rfl, rfl, Below.refl _ _⟩
          | 15, ho =>
            obtain rfl := Option.some.inj ho
            exact gstep_bin rfl (wanted0 rfl) _ _ _ _ _ rfl _ _ (eval_at 29 14 _ (by kernel_rfl) (show 29 < 43 by decide) (hF 14 (by kernel_rfl))) rfl _ (run_andI w1 _ _ _ HTT2.out _ _) ⟨_, rfl, rfl, Below.refl _ _⟩
          | 16, ho =>
            obtain rfl := Option.some.inj ho
            exact gstep_bin rfl (wanted0 rfl) _ _ _ _ _ rfl _ _ rfl (eval_at 30 15 _ (by kernel_rfl) (show 30 < 43 by decide) (hF 15 (by kernel_rfl))) _ (run_addI w1 _ _ _ HE3.out _ _) ⟨_, rfl, rfl, Below.refl _ _⟩
          | 17, ho =>
            obtain rfl := Option.some.inj ho
            exact gstep_field rfl (wanted0 rfl) _ _ _ rfl _ (eval_of 3 _ (by kernel_rfl) rfl) _ (run_actf5 w1 _) ⟨_, rfl, rfl, Below.refl _ _⟩
          | 18, ho =>
            obtain rfl := Option.some.inj ho
            exact gstep_load rfl (wanted0 rfl) _ _ rfl _ (eval_at 32 17 _ (by kernel_rfl) (show 32 < 43 by decide) (hF 17 (by kernel_rfl))) _ (run_loadS w1 _ _ (HA5.out w1 hR)) ⟨_, rfl, rfl, Below.refl _ _⟩
          | 19, ho =>
            obtain rfl := Option.some.inj ho
            exact gstep_move rfl (wanted0 rfl) _ rfl _ (eval_of 6 _ (by kernel_rfl) rfl) ⟨_, rfl, rfl, Below.refl _ _⟩
          | 20, ho =>
            obtain rfl := Option.some.inj ho
            exact gstep_byte rfl (wanted0 rfl) _ rfl HK.out (eval_at 34 19 _ (by kernel_rfl) (show 34 < 43 by decide) (hF 19 (by kernel_rfl))) ⟨_, rfl, rfl, Below.refl _ _⟩
          | 21, ho =>
            obtain rfl := Option.some.inj ho
            exact gstep_rowB rfl (wanted0 rfl) _ rfl _ (eval_at 35 20 _ (by kernel_rfl) (show 35 < 43 by decide) (hF 20 (by kernel_rfl))) ⟨_, rfl, ⟨w1.heap.size, rfl, heap_alloc_new w1 _⟩, (Below.refl _ _).alloc (Nat.le_refl _) _⟩
          | 22, ho =>
            obtain rfl := Option.some.inj ho
            obtain ⟨g, hg, hB⟩ := hF 21 (by kernel_rfl)
            exact gstep_strB rfl (wanted0 rfl) _ rfl _ _ (eval_at 36 21 _ (by kernel_rfl) (show 36 < 43 by decide) hg) (by omega) hB ⟨_, rfl, rfl, Below.refl _ _⟩
          | 23, ho =>
            obtain rfl := Option.some.inj ho
            exact gstep_bin rfl (wanted0 rfl) _ _ _ _ _ rfl _ _ (eval_at 33 18 _ (by kernel_rfl) (show 33 < 43 by decide) (hF 18 (by kernel_rfl))) (eval_at 37 22 _ (by kernel_rfl) (show 37 < 43 by decide) (hF 22 (by kernel_rfl))) _ (run_addS w1 _ _ HD.out _ _) ⟨_, rfl, rfl, Below.refl _ _⟩
          | 24, ho =>
            obtain rfl := Option.some.inj ho
            exact gstep_mkE rfl (wanted0 rfl) _ _ _ rfl _ _ _ _ (eval_at 27 12 _ (by kernel_rfl) (show 27 < 43 by decide) (hF 12 (by kernel_rfl))) (eval_at 31 16 _ (by kernel_rfl) (show 31 < 43 by decide) (hF 16 (by kernel_rfl))) (eval_at 38 23 _ (by kernel_rfl) (show 38 < 43 by decide) (hF 23 (by kernel_rfl))) HEE.out ⟨_, rfl, rfl, Below.refl _ _⟩
          | 25, ho =>
            obtain rfl := Option.some.inj ho
            exact gstep_row rfl (wanted0 rfl) _ rfl _ (eval_at 39 24 _ (by kernel_rfl) (show 39 < 43 by decide) (hF 24 (by kernel_rfl))) ⟨_, rfl, ⟨w1.heap.size, rfl, EnB.new w1 _⟩, (Below.refl _ _).alloc (Nat.le_refl _) _⟩
          | n + 26, ho => exact absurd hi (by omega)
      · intro x' w5 hR hF
        obtain ⟨gE, hgE, hEE⟩ := hF 25 (by decide)
        have h0 : x' 0 = u5 := hF 0 (by decide)
        have b5 := HDR w5 hR
        refine gstep_more rfl (wanted0 rfl) rfl _ _ rfl w.heap.size u5 k _ (eval_at 15 0 _ (by kernel_rfl) (show 15 < 43 by decide) h0) (World.ownsRow_below HRK.out b5) gE x (eval_at 40 25 _ (by kernel_rfl) (show 40 < 43 by decide) hgE) hEE (by omega) (Nat.le_trans HBK.out.size b5.size) ?_
        intro v' w6 hown hgrow
        have hR6 : w6.ownsRow w.heap.size 60 3 v' (k + 1) (enCells (entsA a (first + (len : Int)) (k + 1))) := by
          rw [entsA_succ, enCells_append, ← HXE.out]; exact hown
        have q1 : ¬ some w.heap.size = u5.ownBlock := fun e => HNE.out e.symm
        have A6 : ActB w6 w.heap.size a fv := (hgrow.block w.heap.size (Nat.lt_of_lt_of_le HAK.out.lt b5.size) q1).trans (HAK.out.below b5)
        refine gstep_assign rfl (wanted0 rfl) _ rfl v' ?_ ?_
        · simp only [putAll, Act.put, List.setIfInBounds_toArray, List.set_cons_succ, List.set_cons_zero]
          rfl
        · unfold tailK
          simp only [putAll, Act.put, List.setIfInBounds_toArray, List.set_cons_succ, List.set_cons_zero]
          have hne6 : v'.ownBlock ≠ some w.heap.size := fun e => by
            obtain ⟨cs, hcs⟩ := ownsRow_block hR6 e
            unfold ActB at A6
            rw [hcs] at A6
            simp at A6
          have B6 : Below w.heap.size w w6 := by
            refine (HBK.out.trans (b5.mono HBK.out.size)).grown hgrow (Nat.le_trans HBK.out.size b5.size) (fun j hj => ?_)
            exact (World.ownsRow.lt HRK.out j hj).1
          have HR6 := Lib.hid hR6
          clear hR hF hown hgrow hR6 hgE hEE h0 b5
          go_wp2_with fail
          go_roundw
          case rel => exact ⟨k + 1, by omega, by go_num, HR6.out, hne6, A6, B6⟩
          case measure => simp [intOf]; omega
    · obtain rfl : k = nn := by omega
      have hlt' : ¬ (k : Int) < (k : Int) := by omega
      have HL := Lib.hid (entsA_length a (first + (len : Int)) k)
      obtain ⟨_, p1, p2, p3, p4, p5, _⟩ := Ak.cells
      go_wp2_with fail
      go_ret
      exact ⟨_, rfl, Rk, Bk⟩
end Go.Proofs.YtigebaaldikeaaaDoor
