/- What TreeBytes' own regions need. No conditions beyond those in each statement. -/
import Derived.Test.YtblcpihfnpgfiaaGreatDoorTreeBack
import Derived.Test.YtblcpihfnpgfiaaGreatDoorTreeDo2
import Derived.Test.YtblcpihfnpgfiaaGreatDoorTreeClone
import Derived.Test.YtblcpihfnpgfiaaGreatDoorTreeRead
import Derived.Test.YtblcpihfnpgfiaaGreatDoorTreeLay
import Derived.Test.YtblcpihfnpgfiaaGreatDoorTreeSameM
import Derived.Test.YtblcpihfnpgfiaaGreatDoorInvAll
namespace Go.Proofs.YtblcpihfnpgfiaaGreatDoor
open Go.RowKit Go.Maps Go.Sort
set_option linter.unusedVariables false
set_option linter.unusedSimpArgs false
set_option maxRecDepth 100000

theorem read_st2 (s : ByteArray) (w : World) (hs : s.size ≤ 140737488355328) : Calls Tryz.prog 24 #[.string s] w fun e w' => e = .returned (.pointer (some ⟨w.heap.size, 0, none⟩)) ∧ Rs w' w.heap.size (some s.data.toList) ∧ Below w.heap.size w w' :=
  (read_any s w).mono fun e w' ⟨h1, h2, h3, _⟩ => ⟨h1, ⟨by rw [arr_mk]; exact h2, by rw [← Lib.size_eq]; exact hs⟩, h3⟩
theorem i64_and16 (n : Int) : bits .and .i64 n 65535 = n % 65536 := by
  have h127 : (BitVec.ofInt 64 65535).toNat = 2 ^ 16 - 1 := by decide
  have key : (BitVec.ofInt 64 n &&& BitVec.ofInt 64 65535).toNat = (n % ((2 ^ 64 : Nat) : Int)).toNat % 2 ^ 16 := by
    rw [BitVec.toNat_and, BitVec.toNat_ofInt, h127, Nat.and_two_pow_sub_one_eq_mod]
  show IntKind.i64.wrap ((BitVec.ofInt 64 n &&& BitVec.ofInt 64 65535).toNat : Nat) = n % 65536
  rw [key, IntKind.wrap_i64]
  omega
section
variable {P : Program} {Q : Exit → Act → World → Prop} {l : List Oper}
theorem gstep_row1 {i : Nat} {o : Oper} {a : Act} {w : World} {K : Act → World → Prop} (ho : l[i]? = some o) (hw : WantedIs l a o true) (t : TypeId) (s1 : Operand) (hop : o.op = .buildSlice t 1 #[(0, s1)]) (v1 : Value) (he1 : a.eval s1 = v1) (v' : Value) (w' : World)
    (hr : (Instr.buildSlice t 1 #[(0, v1)]).run P w = .ok v' w') (h : K (a.put o.dst v') w') : Step P l Q i K a w :=
  gstep_value ho hw v' w' (by simp only [execOp, hop, List.map_toArray, List.map_cons, List.map_nil, he1, Sem.run_bind, Sem.run_pure, hr, Result.andThen_ok]) h
theorem gstep_call0 {i : Nat} {o : Oper} {a : Act} {w : World} {K : Act → World → Prop} (ho : l[i]? = some o) (hw : WantedIs l a o true) (f : FuncId) (ts : Array TypeId) (hop : o.op = .call { callee := .value (.func f), args := #[], argTypes := ts }) (hf : (callFunc f #[]).run P w = .ok (.enter f #[]) w)
    (h : Calls P f #[] w fun e w'' => ∃ v, e = .returned v ∧ K (a.put o.dst v) w'') : Step P l Q i K a w :=
  gstep_enter ho hw f #[] w (by simp only [execOp, hop, resolve, invoke, Deferred.ofValue, show a.eval (.func f) = .func (.func f) #[] #[] from rfl, List.map_toArray, List.map_cons, List.map_nil, Sem.run_bind, Sem.run_pure, Result.andThen_ok]; simpa using hf) h
theorem gstep_call4 {i : Nat} {o : Oper} {a : Act} {w : World} {K : Act → World → Prop} (ho : l[i]? = some o) (hw : WantedIs l a o true) (f : FuncId) (s1 s2 s3 s4 : Operand) (ts : Array TypeId) (hop : o.op = .call { callee := .value (.func f), args := #[s1, s2, s3, s4], argTypes := ts }) (v1 v2 v3 v4 : Value) (he1 : a.eval s1 = v1) (he2 : a.eval s2 = v2) (he3 : a.eval s3 = v3) (he4 : a.eval s4 = v4) (hf : (callFunc f #[v1, v2, v3, v4]).run P w = .ok (.enter f #[v1, v2, v3, v4]) w)
    (h : Calls P f #[v1, v2, v3, v4] w fun e w'' => ∃ v, e = .returned v ∧ K (a.put o.dst v) w'') : Step P l Q i K a w :=
  gstep_enter ho hw f #[v1, v2, v3, v4] w (by simp only [execOp, hop, resolve, invoke, Deferred.ofValue, show a.eval (.func f) = .func (.func f) #[] #[] from rfl, List.map_toArray, List.map_cons, List.map_nil, he1, he2, he3, he4, Sem.run_bind, Sem.run_pure, Result.andThen_ok]; simpa using hf) h
end
theorem call_t2 (W : World) (v u : Value) : (callFunc 23 #[v, u]).run Tryz.prog W = .ok (.enter 23 #[v, u]) W := by kernel_rfl
theorem call_new0 (W : World) : (callFunc 9 #[]).run Tryz.prog W = .ok (.enter 9 #[]) W := by kernel_rfl
theorem call_do4 (W : World) (v1 v2 v3 v4 : Value) : (callFunc 10 #[v1, v2, v3, v4]).run Tryz.prog W = .ok (.enter 10 #[v1, v2, v3, v4]) W := by kernel_rfl
theorem run_fEn0 (W : World) (b : Nat) : (Instr.fieldAt 49 (.pointer (some ⟨b, 0, none⟩)) 0).run Tryz.prog W = .ok (.pointer (some ⟨b, 0, none⟩)) W := by go_simp
theorem run_fNd0 (W : World) (b : Nat) : (Instr.fieldAt 40 (.pointer (some ⟨b, 0, none⟩)) 0).run Tryz.prog W = .ok (.pointer (some ⟨b, 0, none⟩)) W := by go_simp
theorem run_ldS (W : World) (p : Addr) (z : ByteArray) (h : W.cell? p = some (.string z)) : (Instr.loadAt 9 (.pointer (some p))).run Tryz.prog W = .ok (.string z) W := by go_simp
theorem run_row1S (W : World) (z : ByteArray) : (Instr.buildSlice 35 1 #[(0, .string z)]).run Tryz.prog W = .ok (.slice (some ⟨W.heap.size, 0, none⟩) 1 1) (W.alloc (.cells #[.string z] 9)) := by go_simp
theorem run_add100 (W : World) (j : Nat) (h : j ≤ 1000) (s1 s2 : Operand) : (do eqGuard .add 3 s1 s2 (.int .i64 100) (.int .i64 (j : Int)); binOp .add 3 (.int .i64 100) (.int .i64 (j : Int)) : Sem Value).run Tryz.prog W = .ok (.int .i64 (100 + (j : Int))) W := by
  have t3 : IntKind.i64.wrap (100 + (j : Int)) = 100 + (j : Int) := IntWalk.i64_in _ (by omega)
  go_simp
def acA (a : Ac) (pv : Value) : Array Value := #[.int .i64 a.k, .int .i64 a.ver, .int .i64 a.owner, pv, .string a.raw, .string a.data, .bool a.serial]
theorem run_ldAc (W : World) (b : Nat) (a : Ac) (pv : Value) (h : W.heap[b]? = some (.cells (acA a pv) 31 (0, 0))) : (Instr.loadAt 31 (.pointer (some ⟨b, 0, none⟩))).run Tryz.prog W = .ok (acV a pv) W := by
  unfold acA at h
  have c0 : W.cell? ⟨b, 0, none⟩ = some (.int .i64 a.k) := by simp [World.cell?, h]
  have c1 : W.cell? ⟨b, 1, none⟩ = some (.int .i64 a.ver) := by simp [World.cell?, h]
  have c2 : W.cell? ⟨b, 2, none⟩ = some (.int .i64 a.owner) := by simp [World.cell?, h]
  have c3 : W.cell? ⟨b, 3, none⟩ = some pv := by simp [World.cell?, h]
  have c4 : W.cell? ⟨b, 4, none⟩ = some (.string a.raw) := by simp [World.cell?, h]
  have c5 : W.cell? ⟨b, 5, none⟩ = some (.string a.data) := by simp [World.cell?, h]
  have c6 : W.cell? ⟨b, 6, none⟩ = some (.bool a.serial) := by simp [World.cell?, h]
  simp [go_sem, c0, c1, c2, c3, c4, c5, c6, acV]
theorem text_w (v : Value) (l : List UInt8) (B g : Nat) (z : ByteArray) (W : World) (h : Src W v l) (hg : g < W.heap.size) (hc : W.cell? ⟨g, 0, none⟩ = some (.string z)) (hl : l.length ≤ 1000000000) (hz : z.size ≤ 1000000) (hB : B ≤ W.heap.size) :
    Calls Tryz.prog 23 #[v, .slice (some ⟨g, 0, none⟩) 1 1] W fun e w' => ∃ v', e = .returned v' ∧ Bs w' B v' (l ++ textsE [z]) ∧ Below W.heap.size W w' := by
  refine (text_list v l g 0 1 [z] W h hg (by simp only [List.length_cons, List.length_nil]; omega) (fun j hj => by match j, hj with
    | 0, _ => simp [maxLen]; omega) (fun j hj => by match j, hj with
    | 0, _ => exact hc)).mono ?_
  rintro e w' ⟨v', he, ho, hb⟩
  exact ⟨v', he, ho.mono hB, hb⟩
theorem num_w (v : Value) (l : List UInt8) (B g : Nat) (z : Int) (W : World) (h : Src W v l) (hg : g < W.heap.size) (hc : W.cell? ⟨g, 0, none⟩ = some (.int .i64 z)) (hl : l.length ≤ 1000000000) (hz : InR z) (hB : B ≤ W.heap.size) :
    Calls Tryz.prog 22 #[v, .slice (some ⟨g, 0, none⟩) 1 1] W fun e w' => ∃ v', e = .returned v' ∧ Bs w' B v' (l ++ numsE [z]) ∧ Below W.heap.size W w' := by
  refine (num_list v l g 0 1 [z] W h hg (by simp only [List.length_cons, List.length_nil]; omega) (fun j hj => by match j, hj with
    | 0, _ => exact hz) (fun j hj => by match j, hj with
    | 0, _ => exact hc)).mono ?_
  rintro e w' ⟨v', he, ho, hb⟩
  exact ⟨v', he, ho.mono hB, hb⟩
def RI (u : Value) (w : World) (x : Value) : Prop := ∃ g, u = .slice (some ⟨g, 0, none⟩) 1 1 ∧ g < w.heap.size ∧ w.cell? ⟨g, 0, none⟩ = some x
theorem RI.below {u x : Value} {w w' : World} (h : RI u w x) (hb : Below w.heap.size w w') : RI u w' x := by
  obtain ⟨g, h1, h2, h3⟩ := h; exact ⟨g, h1, Nat.lt_of_lt_of_le h2 hb.size, (hb.cell (p := ⟨g, 0, none⟩) h2).trans h3⟩
/-- The region that writes a node's path and data: what each operation leaves. -/
def F18 (vb : Value) (B eb nb : Nat) (l : List UInt8) (p d : ByteArray) : Nat → Value → World → Prop
  | 0, u, _ => u = vb
  | 1, u, _ => u = .pointer (some ⟨eb, 0, none⟩)
  | 2, u, _ => u = .string p
  | 3, u, w => RI u w (.string p)
  | 4, u, w => Bs w B u (l ++ textsE [p])
  | 5, u, _ => u = .pointer (some ⟨nb, 0, none⟩)
  | 6, u, _ => u = .string d
  | 7, u, w => RI u w (.string d)
  | 8, u, w => Bs w B u ((l ++ textsE [p]) ++ textsE [d])
  | _, _, _ => True
theorem F18_keep {vb : Value} {B eb nb : Nat} {l : List UInt8} {p d : ByteArray} (i : Nat) {u : Value} {w w' : World} (h : F18 vb B eb nb l p d i u w) (hb : Below w.heap.size w w') : F18 vb B eb nb l p d i u w' := by
  match i, h with
  | 0, h => exact h
  | 1, h => exact h
  | 2, h => exact h
  | 3, h => exact RI.below h hb
  | 4, h => exact Bs.below h hb
  | 5, h => exact h
  | 6, h => exact h
  | 7, h => exact RI.below h hb
  | 8, h => exact Bs.below h hb
  | n + 9, _ => trivial
/-- A fresh model above m. -/
def Fresh (m : Nat) (u : Value) (w : World) : Prop := ∃ g mp, u = .pointer (some ⟨mp, 0, none⟩) ∧ ModL w 0 mp g 1 [([47], Nd.zero)] ∧ m ≤ g ∧ m ≤ mp
theorem Fresh.below {m : Nat} {u : Value} {w w' : World} (h : Fresh m u w) (hb : Below w.heap.size w w') : Fresh m u w' := by
  obtain ⟨g, mp, h1, h2, h3⟩ := h; exact ⟨g, mp, h1, h2.below hb, h3⟩
theorem fresh_new (m : Nat) (W : World) (hm : m ≤ W.heap.size) : Calls Tryz.prog 9 #[] W fun e w' => ∃ v, e = .returned v ∧ Fresh m v w' ∧ Below W.heap.size W w' :=
  (mnew_any W).mono fun e w' ⟨he, hM, hb⟩ => ⟨_, he, ⟨W.heap.size, W.heap.size + 1, rfl, ⟨hM.box, hM.row.mono (Nat.zero_le _)⟩, hm, by omega⟩, hb⟩
/-- The region of an act with a fresh model. -/
def F37 (m tb : Nat) (a : Ac) (pv : Value) (j : Nat) : Nat → Value → World → Prop
  | 0, u, _ => u = .pointer (some ⟨tb, 0, none⟩)
  | 1, u, w => Fresh m u w
  | 2, u, _ => u = acV a pv
  | 3, u, _ => u = .int .i64 (j : Int)
  | 4, u, _ => u = .int .i64 (100 + (j : Int))
  | _, _, _ => True
theorem F37_keep {m tb : Nat} {a : Ac} {pv : Value} {j : Nat} (i : Nat) {u : Value} {w w' : World} (h : F37 m tb a pv j i u w) (hb : Below w.heap.size w w') : F37 m tb a pv j i u w' := by
  match i, h with
  | 0, h => exact h
  | 1, h => exact Fresh.below h hb
  | 2, h => exact h
  | 3, h => exact h
  | 4, h => exact h
  | n + 5, _ => trivial
/-- Nothing that was there has turned, but one block. -/
def K1 (a w : World) (mb : Nat) : Prop := a.heap.size ≤ w.heap.size ∧ ∀ k, k < a.heap.size → k ≠ mb → w.heap[k]? = a.heap[k]?
theorem K1.refl (a : World) (mb : Nat) : K1 a a mb := ⟨Nat.le_refl _, fun _ _ _ => rfl⟩
theorem K1.below {a w x : World} {mb : Nat} (h : K1 a w mb) (hb : Below w.heap.size w x) : K1 a x mb :=
  ⟨Nat.le_trans h.1 hb.size, fun k hk hn => (hb.block k (Nat.lt_of_lt_of_le hk h.1)).trans (h.2 k hk hn)⟩
theorem K1.three {a w x : World} {mb mp g : Nat} (h : K1 a w mb) (hK : K3 w x mb mp g) (h1 : a.heap.size ≤ mp) (h2 : a.heap.size ≤ g) : K1 a x mb :=
  ⟨Nat.le_trans h.1 hK.1, fun k hk hn => (hK.2 k (Nat.lt_of_lt_of_le hk h.1) hn (by omega) (by omega)).trans (h.2 k hk hn)⟩
theorem TrW.k1 {a w : World} {tb mb k c mb0 : Nat} {T : List UInt8 → Option Nd} (h : TrW a tb mb k c T) (hK : K1 a w mb0) (h1 : tb ≠ mb0) (h2 : mb ≠ mb0) : TrW w tb mb k c T :=
  ⟨(hK.2 tb h.lt h1).trans h.tree, h.map.keep0 (hK.2 mb h.map.lt h2)⟩
theorem ModL.k1 {a w : World} {base mp g cap mb0 : Nat} {L : List Me} (h : ModL a base mp g cap L) (hK : K1 a w mb0) (h1 : mp ≠ mb0) (h2 : g ≠ mb0) : ModL w base mp g cap L :=
  h.same (hK.2 mp h.ltm h1) (hK.2 g h.ltg h2)
theorem keys_small {T : List UInt8 → Option Nd} (h : KeysOk T) : ∀ x n, T x = some n → x.length ≤ 1000 := fun x n hx => by
  have := (check_len (h x n hx)).1; omega
theorem layE_len (L : List Me) (h : L.length ≤ 100) : 6 ≤ (layE L).length ∧ (layE L).length ≤ 14000000 := by
  have := ents_len L
  unfold layE
  rw [List.length_append, numE_length]; omega
end Go.Proofs.YtblcpihfnpgfiaaGreatDoor
