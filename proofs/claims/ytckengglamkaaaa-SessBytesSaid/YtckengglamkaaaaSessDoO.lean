/- The law's do: Seen, Close, Keep of both. No conditions beyond those in each statement. -/
import Derived.Test.YtckengglamkaaaaSessDo
import Derived.Test.YtckengglamkaaaaInvar6
import Derived.Deep.RegionLawGrows
import Derived.Deep.CutBlock
import Derived.Laws.AppendOwnNone
import Derived.Deep.AppendLies
import Derived.Deep.DeepCutAuto
namespace Go.Proofs.Ytckengglamkaaaa
open Go.RowKit Go.Maps Go.Sort
set_option linter.unusedVariables false
set_option maxRecDepth 100000

section
variable {P : Program} {Q : Exit → Act → World → Prop} {l : List Oper}
theorem gstep_slice3 {i : Nat} {o : Oper} {a : Act} {w : World} {K : Act → World → Prop} (ho : l[i]? = some o) (hw : WantedIs l a o true) (t : TypeId) (s y z : Operand) (hop : o.op = .slice t s none (some y) (some z)) (v u x : Value) (he : a.eval s = v) (hy : a.eval y = u) (hz : a.eval z = x) (v' : Value)
    (hr : (Instr.sliceAt t v none (some u) (some x)).run P w = .ok v' w) (h : K (a.put o.dst v') w) : Step P l Q i K a w :=
  gstep_value ho hw v' w (by simp only [execOp, hop, Option.map_some, Option.map_none, he, hy, hz, Sem.run_bind, Sem.run_pure, hr, Result.andThen_ok]) h
theorem gstep_build1 {i : Nat} {o : Oper} {a : Act} {w : World} {K : Act → World → Prop} (ho : l[i]? = some o) (hw : WantedIs l a o true) (t : TypeId) (i1 : Nat) (s1 : Operand) (hop : o.op = .build t #[(i1, s1)]) (v1 : Value) (he1 : a.eval s1 = v1) (v' : Value)
    (hr : (Instr.build t #[(i1, v1)]).run P w = .ok v' w) (h : K (a.put o.dst v') w) : Step P l Q i K a w :=
  gstep_value ho hw v' w (by simp only [execOp, hop, List.map_toArray, List.map_cons, List.map_nil, he1, Sem.run_bind, Sem.run_pure, hr, Result.andThen_ok]) h
theorem gstep_row1 {i : Nat} {o : Oper} {a : Act} {w : World} {K : Act → World → Prop} (ho : l[i]? = some o) (hw : WantedIs l a o true) (t : TypeId) (s1 : Operand) (hop : o.op = .buildSlice t 1 #[(0, s1)]) (v1 : Value) (he1 : a.eval s1 = v1) (v' : Value) (w' : World)
    (hr : (Instr.buildSlice t 1 #[(0, v1)]).run P w = .ok v' w') (h : K (a.put o.dst v') w') : Step P l Q i K a w :=
  gstep_value ho hw v' w' (by simp only [execOp, hop, List.map_toArray, List.map_cons, List.map_nil, he1, Sem.run_bind, Sem.run_pure, hr, Result.andThen_ok]) h
theorem gstep_grow {i : Nat} {o : Oper} {a : Act} {w : World} {K : Act → World → Prop} (ho : l[i]? = some o) (hw : WantedIs l a o true) (hg : o.guard = none) (s x : Operand) (t : TypeId) (hop : o.op = .call { callee := .builtin .append, args := #[s, x], argTypes := #[t, t] })
    (e : TypeId) (i0 : TypeInfo) (z : Value) (size bytes : Nat) (h1 : P.underlying t = some (.slice e)) (h2 : P.info? e = some i0) (h3 : i0.zero = some z) (h4 : i0.size = size) (h5 : i0.bytes = bytes) (h6 : z.cells.size = size) (h7 : 0 < size)
    (ao : Option Addr) (n cap : Nat) (olds : List Value) (hs : a.eval s = .slice ao n cap) (hnone : ao = none → n = 0 ∧ cap = 0) (hlo : olds.length = n * size) (holds : ∀ b, ao = some b → ∀ j u, olds[j]? = some u → w.cell? (b.add j) = some u)
    (ad : Addr) (m c : Nat) (news : List Value) (hx : a.eval x = .slice (some ad) m c) (hn : news.length = m * size) (hc : ∀ j u, news[j]? = some u → w.cell? (ad.add j) = some u) (h1c : ∀ u ∈ news, u.oneCell' = true)
    (hfull : cap < n + m) (b1 : n + m ≤ maxLen) (b2 : (n + m) * bytes ≤ 140737488355328)
    (hK : ∀ v' w', w'.ownsRow w.heap.size e size v' (n + m) (olds ++ news) → w.grownBy w' none → K (a.put o.dst v') w') : Step P l Q i K a w := by
  refine ⟨?_⟩
  unfold wpOp
  rw [show l.toArray[i]? = some o by simpa using ho]
  have h := step_append_grows (ops := l.toArray) (Q := Q) (E := True) hg s x t hop e i0 z size bytes h1 h2 h3 h4 h5 h6 h7 ao n cap olds hs hnone hlo holds ad m c news hx hn hc h1c hfull b1 b2 hK
  have hw' : Region.wanted o (yielded l.toArray a.tmps) = true := hw
  rw [if_pos hw'] at h
  show (if Region.wanted o (yielded l.toArray a.tmps) = true then _ else _)
  rw [if_pos hw']
  exact .inl h
end
theorem run_cut3 (W : World) (a : Option Addr) (n c j : Nat) (h : j ≤ n) (hn : n ≤ c ∧ n ≤ 1000) (ha : a = none → n = 0 ∧ c = 0) : (Instr.sliceAt 28 (.slice a n c) none (some (.int .i64 (j : Int))) (some (.int .i64 (j : Int)))).run Try.prog W = .ok (.slice a j j) W := by
  have h1 : (j : Int) ≤ (c : Int) := by omega
  have h0 : (0 : Int) ≤ (j : Int) := by omega
  cases a with
  | none =>
    obtain ⟨rfl, rfl⟩ := ha rfl
    obtain rfl : j = 0 := by omega
    go_simp
  | some b => go_simp
theorem run_bEnt (W : World) (z : Int) : (Instr.build 48 #[(0, .int .i64 z)]).run Try.prog W = .ok (.agg #[.int .i64 z, .int .i64 0, .string ⟨#[]⟩]) W := by kernel_rfl
theorem run_row1 (W : World) (z : Int) : (Instr.buildSlice 28 1 #[(0, .agg #[.int .i64 z, .int .i64 0, .string ⟨#[]⟩])]).run Try.prog W = .ok (.slice (some ⟨W.heap.size, 0, none⟩) 1 1) (W.alloc (.cells #[.int .i64 z, .int .i64 0, .string ⟨#[]⟩] 48)) := by go_simp
theorem gstep_len {Q : Exit → Act → World → Prop} {l : List Oper} {i : Nat} {o : Oper} {a : Act} {w : World} {K : Act → World → Prop} (ho : l[i]? = some o) (hw : WantedIs l a o true) (s : Operand) (hop : o.op = .call { callee := .builtin .len, args := #[s], argTypes := #[28] }) (p : Option Addr) (n c : Nat) (he : a.eval s = .slice p n c)
    (h : K (a.put o.dst (.int .i64 n)) w) : Step Try.prog l Q i K a w :=
  gstep_value ho hw _ w (by simp only [execOp, hop, resolve, List.map_toArray, List.map_cons, List.map_nil, he]; go_simp) h
theorem run_lssF (W : World) (x y : Int) (h : decide (x < y) = false) (s1 s2 : Operand) : (do eqGuard .lss 3 s1 s2 (.int .i64 x) (.int .i64 y); binOp .lss 3 (.int .i64 x) (.int .i64 y) : Sem Value).run Try.prog W = .ok (.bool false) W := by go_simp
def FR6 (mp : Nat) (a : Option Addr) (n cap j : Nat) : Nat → Value → World → Prop
  | 0, v, _ => v = .int .i64 (j : Int)
  | 1, v, _ => v = .pointer (some ⟨mp, 0, none⟩)
  | 2, v, _ => v = .pointer (some ⟨mp, 0, none⟩)
  | 3, v, _ => v = .pointer (some ⟨mp, 0, none⟩)
  | 4, v, _ => v = .slice a n cap
  | 5, v, _ => v = .int .i64 (n : Int)
  | 6, v, _ => v = .bool false
  | 7, v, _ => v = .bool false
  | 8, v, _ => v = undef
  | 9, v, _ => v = undef
  | 10, v, _ => v = undef
  | 11, v, _ => v = undef
  | 12, v, _ => v = undef
  | 13, v, _ => v = undef
  | 14, v, _ => v = undef
  | 15, v, _ => v = undef
  | 16, v, _ => v = undef
  | 17, v, _ => v = undef
  | 18, v, _ => v = undef
  | 19, v, _ => v = .bool false
  | _, _, _ => True
theorem FR6_keep {mp : Nat} {a : Option Addr} {n cap j : Nat} {v : Value} {w w' : World} : ∀ i : Nat, FR6 mp a n cap j i v w → FR6 mp a n cap j i v w'
  | 0, h => h
  | 1, h => h
  | 2, h => h
  | 3, h => h
  | 4, h => h
  | 5, h => h
  | 6, h => h
  | 7, h => h
  | 8, h => h
  | 9, h => h
  | 10, h => h
  | 11, h => h
  | 12, h => h
  | 13, h => h
  | 14, h => h
  | 15, h => h
  | 16, h => h
  | 17, h => h
  | 18, h => h
  | 19, h => h
  | _ + 20, _ => trivial
def FOp (mp ab : Nat) (a : Option Addr) (n cap j : Nat) (id : Int) (ad : Addr) (c10 : Nat) : Nat → Value → Prop
  | 0, v => v = .pointer (some ⟨mp, 0, none⟩)
  | 1, v => v = .pointer (some ⟨mp, 0, none⟩)
  | 2, v => v = .pointer (some ⟨mp, 0, none⟩)
  | 3, v => v = .pointer (some ⟨mp, 0, none⟩)
  | 4, v => v = .slice a n cap
  | 5, v => v = .int .i64 (j : Int)
  | 6, v => v = .int .i64 (j : Int)
  | 7, v => v = .slice a j j
  | 8, v => v = .pointer (some ⟨ab, 1, none⟩)
  | 9, v => v = .int .i64 id
  | 10, v => v = .agg #[.int .i64 id, .int .i64 0, .string ⟨#[]⟩]
  | 11, _ => True
  | 12, _ => True
  | 13, v => v = .slice (some ad) (n - j) c10
  | 14, _ => True
  | 15, v => v = .pointer (some ⟨mp, 0, none⟩)
  | 16, v => v = .pointer (some ⟨mp, 0, none⟩)
  | _, _ => True
/-- What stands behind the appends of an Open. -/
def JOp (w0 : World) (L : List Me) (j : Nat) (id : Int) (b : Nat → Bool) (x : Nat → Value) (w : World) : Prop :=
  Below w0.heap.size w0 w ∧ (b 14 = true → b 12 = true) ∧ (b 12 = true → b 11 = true) ∧
  (if b 14 then w.ownsRow w0.heap.size 48 3 (x 14) (L.length + 1) (meCells (L.take j ++ (id, Ss.zero) :: L.drop j))
   else if b 12 then w.ownsRow w0.heap.size 48 3 (x 12) (j + 1) (meCells (L.take j ++ [(id, Ss.zero)]))
   else if b 11 then ∃ g, x 11 = .slice (some ⟨g, 0, none⟩) 1 1 ∧ w.heap[g]? = some (.cells #[.int .i64 id, .int .i64 0, .string ⟨#[]⟩] 48 (0, 0)) else True)
section
variable {w0 w w' : World} {L : List Me} {j : Nat} {id : Int} {b : Nat → Bool} {x : Nat → Value}
theorem JOp.pure {i : Nat} {v : Value} (h : JOp w0 L j id b x w) (hi : ¬ 11 = i ∧ ¬ 12 = i ∧ ¬ 14 = i) : JOp w0 L j id (setB b i) (setX x i v) w := by
  obtain ⟨h1, h2, h3⟩ := hi
  unfold JOp at h ⊢
  rw [setB_ne h1, setB_ne h2, setB_ne h3, setX_ne h1, setX_ne h2, setX_ne h3]
  exact h
theorem JOp.one (h : JOp w0 L j id b x w) (hb : b 11 = false) : JOp w0 L j id (setB b 11) (setX x 11 (.slice (some ⟨w.heap.size, 0, none⟩) 1 1)) (w.alloc (.cells #[.int .i64 id, .int .i64 0, .string ⟨#[]⟩] 48)) := by
  obtain ⟨h1, h2, h3, _⟩ := h
  have h8 : b 12 = false := by cases e : b 12; rfl; have := h3 e; rw [hb] at this; cases this
  have h16 : b 14 = false := by cases e : b 14; rfl; have := h2 e; rw [h8] at this; cases this
  unfold JOp
  rw [setB_same, setB_ne (by decide), setB_ne (by decide), setX_same, h8, h16]
  exact ⟨h1.alloc h1.size _, by simp, by simp, w.heap.size, rfl, heap_alloc_new w _⟩
theorem JOp.at11 (h : JOp w0 L j id b x w) (hb : b 11 = true) (h8 : b 12 = false) : ∃ g, x 11 = .slice (some ⟨g, 0, none⟩) 1 1 ∧ w.heap[g]? = some (.cells #[.int .i64 id, .int .i64 0, .string ⟨#[]⟩] 48 (0, 0)) := by
  obtain ⟨_, h2, _, h4⟩ := h
  have h16 : b 14 = false := by cases e : b 14; rfl; have := h2 e; rw [h8] at this; cases this
  rw [h16, h8, hb] at h4
  exact h4
theorem JOp.two {v : Value} (h : JOp w0 L j id b x w) (hb : b 11 = true) (h8 : b 12 = false) (ho : w'.ownsRow w.heap.size 48 3 v (j + 1) (meCells (L.take j) ++ meCells [(id, Ss.zero)])) (hg : w.grownBy w' none) :
    JOp w0 L j id (setB b 12) (setX x 12 v) w' := by
  obtain ⟨h1, h2, h3, _⟩ := h
  have h16 : b 14 = false := by cases e : b 14; rfl; have := h2 e; rw [h8] at this; cases this
  unfold JOp
  rw [setB_same, setB_ne (by decide), setB_ne (by decide), setX_same, hb, h16]
  have ho' : w'.ownsRow w0.heap.size 48 3 v (j + 1) (meCells (L.take j ++ [(id, Ss.zero)])) := by rw [meCells_append]; exact ownsRow_less ho h1.size
  exact ⟨h1.grown hg h1.size (fun j hj => by cases hj), by simp, by simp, ho'⟩
theorem JOp.at12 (h : JOp w0 L j id b x w) (hb : b 12 = true) (h16 : b 14 = false) : w.ownsRow w0.heap.size 48 3 (x 12) (j + 1) (meCells (L.take j ++ [(id, Ss.zero)])) := by
  obtain ⟨_, _, _, h4⟩ := h
  rw [h16, hb] at h4
  exact h4
theorem JOp.three {v : Value} (h : JOp w0 L j id b x w) (hb : b 12 = true) (h16 : b 14 = false) (hown : w.ownsRow w0.heap.size 48 3 (x 12) (j + 1) (meCells (L.take j ++ [(id, Ss.zero)]))) (ho : w'.ownsRow w0.heap.size 48 3 v (L.length + 1) (meCells (L.take j ++ [(id, Ss.zero)]) ++ meCells (L.drop j))) (hg : w.grownBy w' (x 12).ownBlock) :
    JOp w0 L j id (setB b 14) (setX x 14 v) w' := by
  obtain ⟨h1, h2, h3, _⟩ := h
  unfold JOp
  rw [setB_same, setB_ne (by decide), setB_ne (by decide), setX_same, hb]
  refine ⟨h1.grown hg h1.size (fun j hj => (hown.lt j hj).1), by simp, fun _ => h3 hb, ?_⟩
  have e : L.take j ++ (id, Ss.zero) :: L.drop j = (L.take j ++ [(id, Ss.zero)]) ++ L.drop j := by simp
  rw [e, meCells_append]; exact ho
theorem JOp.at14 (h : JOp w0 L j id b x w) (h16 : b 14 = true) : w.ownsRow w0.heap.size 48 3 (x 14) (L.length + 1) (meCells (L.take j ++ (id, Ss.zero) :: L.drop j)) := by
  obtain ⟨_, _, _, h4⟩ := h
  rw [h16] at h4
  exact h4
end
theorem RepS.ins {T : Int → Option Ss} {L : List Me} (h : RepS T L) {s : Int} (hs : T s = none) (n : Ss) (j : Nat) (h1 : ∀ q e, q < j → L[q]? = some e → e.1 < s) (h2 : ∀ e, L[j]? = some e → s ≤ e.1) : RepS (updS T s (some n)) (L.take j ++ (s, n) :: L.drop j) := by
  have hp : (L.take j ++ (s, n) :: L.drop j).Perm ((s, n) :: L) := by
    have := List.perm_middle (a := (s, n)) (l₁ := L.take j) (l₂ := L.drop j)
    rw [List.take_append_drop] at this; exact this
  have hns : ∀ m, (s, m) ∉ L := fun m hm => by have := (h.mem s m).2 hm; rw [hs] at this; cases this
  have hlow : ∀ e ∈ L.take j, e.1 < s := fun e he => by
    obtain ⟨q, hq⟩ := List.getElem?_of_mem he
    have hql := (List.getElem?_eq_some_iff.1 hq).1
    rw [List.length_take] at hql
    rw [List.getElem?_take, if_pos (by omega)] at hq
    exact h1 q e (by omega) hq
  have hasc := h.asc
  rw [← List.take_append_drop j L, List.map_append, List.pairwise_append] at hasc
  obtain ⟨a1, a2, a3⟩ := hasc
  have hhigh : ∀ e ∈ L.drop j, s < e.1 := fun e he => by
    cases hd : L.drop j with
    | nil => rw [hd] at he; cases he
    | cons y l =>
      have hy : L[j]? = some y := by
        have : (L.drop j)[0]? = some y := by rw [hd]; rfl
        rw [List.getElem?_drop] at this; simpa using this
      have h3 := h2 y hy
      have h4 : y.1 ≠ s := fun e => hns y.2 (by rw [← e]; exact List.mem_of_getElem? hy)
      rw [hd] at he a2
      rcases List.mem_cons.1 he with rfl | he
      · omega
      · rw [List.map_cons, List.pairwise_cons] at a2
        have := a2.1 e.1 (List.mem_map_of_mem he); omega
  refine ⟨?_, fun x m => ?_⟩
  · rw [List.map_append, List.map_cons, List.pairwise_append]
    refine ⟨a1, List.pairwise_cons.2 ⟨fun b hb => ?_, a2⟩, fun a ha b hb => ?_⟩
    · obtain ⟨e, he, rfl⟩ := List.mem_map.1 hb; exact hhigh e he
    · obtain ⟨e, he, rfl⟩ := List.mem_map.1 ha
      have := hlow e he
      rcases List.mem_cons.1 hb with rfl | hb
      · exact this
      · obtain ⟨f, hf, rfl⟩ := List.mem_map.1 hb
        have := hhigh f hf; omega
  · rw [hp.mem_iff, List.mem_cons]
    by_cases hx : x = s
    · subst hx
      rw [updS_same]
      constructor
      · intro e; injection e with e; exact .inl (by rw [e])
      · rintro (e | e)
        · injection e with _ e; rw [e]
        · exact absurd e (hns m)
    · rw [updS_other hx, h.mem x m]
      constructor
      · exact .inr
      · rintro (e | e)
        · injection e with e _; exact absurd e hx
        · exact e
theorem drewN_below10 (w : World) (n : Nat) : Below w.heap.size w (w.drewN n) := ⟨rfl, rfl, rfl, Nat.le_refl _, fun _ _ => rfl⟩
set_option maxHeartbeats 4000000 in
theorem sdo_open_no (m tb mb k mp cap : Nat) (a : Option Addr) (T : Int → Option Ss) (L : List Me) (q : Sa) (w : World) (h2 : TwoS m w tb mb k mp cap a T L) (hid : InR q.id) (hk : k < 100000) (hq : wrap64 ((IntKind.u64.wrap q.k).tmod 5) = 0) (hno : okN q.id = false ∨ (T q.id).isSome = true ∨ 16 ≤ L.length) :
    Calls Try.prog 12 #[.pointer (some ⟨mp, 0, none⟩), .pointer (some ⟨tb, 0, none⟩), actV q] w fun e w' => e = .returned (.bool true) ∧ DoR m w w' tb mb k mp a := by
  have H2 := Lib.hid h2
  obtain ⟨qk, qi, qr, qa⟩ := q
  simp only at hid hq hno
  have b1 := (Below.refl w.heap.size w).alloc (Nat.le_refl _) (.cells #[.int .i64 qk, .int .i64 qi, .int .i64 qr, .string qa] 32)
  have N1 := heap_alloc_new w (.cells #[.int .i64 qk, .int .i64 qi, .int .i64 qr, .string qa] 32)
  have hl1000 : L.length ≤ 1000 := by have := h2.few; omega
  have HA := Lib.hid (fun (W : World) (hW : Below w.heap.size w W) => at_any mp cap a L qi W (h2.mod.below hW) hl1000)
  have hm0 := h2.above.2.2.2.1
  obtain ⟨ai, hai⟩ : ∃ ai, ai = atI L qi L.length := ⟨_, rfl⟩
  rw [← hai] at HA
  cases hok : okN qi
  · have hE : openE T L.length qi = 1 := by unfold openE; rw [if_pos hok]
    have hTT : openT T L.length qi = T := by unfold openT; rw [hE, if_neg (by decide)]
    have hCC : openC T L.length qi = L.length := by unfold openC; rw [hE, if_neg (by decide)]
    have hsp : decide (qi < 1) = true ∨ (decide (qi < 1) = false ∧ decide (281474976710655 < qi) = true) := by
      unfold okN at hok
      by_cases h1 : 1 ≤ qi
      · by_cases h3 : qi ≤ 281474976710655
        · simp [h1, h3] at hok
        · right; simp; omega
      · left; simp; omega
    rcases hsp with e1 | ⟨e1, e2⟩
    · have HOP := Lib.hid (fun (W : World) (hW : Below w.heap.size w W) => (by
        have := open_any tb mb k L.length T qi W (h2.table.below hW) hid (by omega)
        rw [hE, hTT, hCC] at this; exact this : Calls Try.prog 17 #[.pointer (some ⟨tb, 0, none⟩), .int .i64 qi] W fun e w' => e = .returned (.int .i64 1) ∧ Left10 W tb mb (k + 1) L.length T w'))
      have HC := Lib.hid (fun (W : World) (hW : Below w.heap.size w W) => (h2.mod.below hW).cell)
      clear hE hTT hCC h2 hai hok hno
      unfold actV
      go_enter Try.func12, Try.ntmps12
      go_upto_region 1 with fail
      obtain ⟨w1, hw1⟩ : ∃ w1, w1 = w.alloc (.cells #[.int .i64 qk, .int .i64 qi, .int .i64 qr, .string qa] 32) := ⟨_, rfl⟩
      rw [← hw1] at b1 N1 ⊢
      have hlt : w.heap.size < w1.heap.size := (Array.getElem?_eq_some_iff.1 N1).1
      have c1 : w1.cell? ⟨w.heap.size, 1, none⟩ = some (.int .i64 qi) := by simp [World.cell?, N1]
      clear hw1
      go_wp2_with fail
      refine (HA.out _ b1).mono ?_
      rintro e w2 ⟨rfl, b2⟩
      have N2 := (b2.block w.heap.size hlt).trans N1
      replace b2 := b1.trans (b2.mono b1.size)
      clear N1 b1 c1 hlt
      have c0 : w2.cell? ⟨w.heap.size, 0, none⟩ = some (.int .i64 qk) := by simp [World.cell?, N2]
      have c1 : w2.cell? ⟨w.heap.size, 1, none⟩ = some (.int .i64 qi) := by simp [World.cell?, N2]
      have c2 : w2.cell? ⟨w.heap.size, 2, none⟩ = some (.int .i64 qr) := by simp [World.cell?, N2]
      have c3 : w2.cell? ⟨w.heap.size, 3, none⟩ = some (.string qa) := by simp [World.cell?, N2]
      have hlt2 : w.heap.size < w2.heap.size := (Array.getElem?_eq_some_iff.1 N2).1
      have HN2 := Lib.hid N2
      clear N2
      have x0 := HC.out _ b2
      go_wp2_with fail
      refine (HOP.out _ b2).mono ?_
      rintro e w3 ⟨rfl, L3⟩
      have M3 := (H2.out.mod.below b2).left L3.2 H2.out.ne.2.1 (fun g hg => (H2.out.ne.2.2 g hg).2)
      have b3 := (b2.mono hm0).trans (left10_below L3 H2.out.above.2.1 (Nat.le_trans hm0 b2.size))
      go_wp2_with fail
      go_ret
      exact ⟨by simp, b3, (Onl.below b2).left b2.size L3.2, cap, a, T, L, ⟨L3.1, M3, H2.out.rep, H2.out.few, H2.out.small, H2.out.ne, H2.out.above.1, H2.out.above.2.1, H2.out.above.2.2.1, Nat.le_trans hm0 (by have := b2.size; have := L3.2.size; omega), H2.out.above.2.2.2.2⟩⟩
    · have HOP := Lib.hid (fun (W : World) (hW : Below w.heap.size w W) => (by
        have := open_any tb mb k L.length T qi W (h2.table.below hW) hid (by omega)
        rw [hE, hTT, hCC] at this; exact this : Calls Try.prog 17 #[.pointer (some ⟨tb, 0, none⟩), .int .i64 qi] W fun e w' => e = .returned (.int .i64 1) ∧ Left10 W tb mb (k + 1) L.length T w'))
      have HC := Lib.hid (fun (W : World) (hW : Below w.heap.size w W) => (h2.mod.below hW).cell)
      clear hE hTT hCC h2 hai hok hno
      unfold actV
      go_enter Try.func12, Try.ntmps12
      go_upto_region 1 with fail
      obtain ⟨w1, hw1⟩ : ∃ w1, w1 = w.alloc (.cells #[.int .i64 qk, .int .i64 qi, .int .i64 qr, .string qa] 32) := ⟨_, rfl⟩
      rw [← hw1] at b1 N1 ⊢
      have hlt : w.heap.size < w1.heap.size := (Array.getElem?_eq_some_iff.1 N1).1
      have c1 : w1.cell? ⟨w.heap.size, 1, none⟩ = some (.int .i64 qi) := by simp [World.cell?, N1]
      clear hw1
      go_wp2_with fail
      refine (HA.out _ b1).mono ?_
      rintro e w2 ⟨rfl, b2⟩
      have N2 := (b2.block w.heap.size hlt).trans N1
      replace b2 := b1.trans (b2.mono b1.size)
      clear N1 b1 c1 hlt
      have c0 : w2.cell? ⟨w.heap.size, 0, none⟩ = some (.int .i64 qk) := by simp [World.cell?, N2]
      have c1 : w2.cell? ⟨w.heap.size, 1, none⟩ = some (.int .i64 qi) := by simp [World.cell?, N2]
      have c2 : w2.cell? ⟨w.heap.size, 2, none⟩ = some (.int .i64 qr) := by simp [World.cell?, N2]
      have c3 : w2.cell? ⟨w.heap.size, 3, none⟩ = some (.string qa) := by simp [World.cell?, N2]
      have hlt2 : w.heap.size < w2.heap.size := (Array.getElem?_eq_some_iff.1 N2).1
      have HN2 := Lib.hid N2
      clear N2
      have x0 := HC.out _ b2
      go_wp2_with fail
      refine (HOP.out _ b2).mono ?_
      rintro e w3 ⟨rfl, L3⟩
      have M3 := (H2.out.mod.below b2).left L3.2 H2.out.ne.2.1 (fun g hg => (H2.out.ne.2.2 g hg).2)
      have b3 := (b2.mono hm0).trans (left10_below L3 H2.out.above.2.1 (Nat.le_trans hm0 b2.size))
      go_wp2_with fail
      go_ret
      exact ⟨by simp, b3, (Onl.below b2).left b2.size L3.2, cap, a, T, L, ⟨L3.1, M3, H2.out.rep, H2.out.few, H2.out.small, H2.out.ne, H2.out.above.1, H2.out.above.2.1, H2.out.above.2.2.1, Nat.le_trans hm0 (by have := b2.size; have := L3.2.size; omega), H2.out.above.2.2.2.2⟩⟩
  · have e1 : decide (qi < 1) = false := by unfold okN at hok; rw [Bool.and_eq_true] at hok; simp at hok; simp; omega
    have e2 : decide (281474976710655 < qi) = false := by unfold okN at hok; rw [Bool.and_eq_true] at hok; simp at hok; simp; omega
    cases hs : (T qi).isSome
    · have hc16 : 16 ≤ L.length := by
        rcases hno with h | h | h
        · rw [hok] at h; cases h
        · rw [hs] at h; cases h
        · exact h
      have hE : openE T L.length qi = 16 := by unfold openE; rw [if_neg (by rw [hok]; decide), hs, if_neg (by decide), if_pos hc16]
      have hTT : openT T L.length qi = T := by unfold openT; rw [hE, if_neg (by decide)]
      have hCC : openC T L.length qi = L.length := by unfold openC; rw [hE, if_neg (by decide)]
      have hn : T qi = none := by cases h : T qi; rfl; rw [h] at hs; cases hs
      have ha1 : ai = -1 := by rw [hai]; exact h2.rep.at_none hn
      subst ha1
      have e3 : decide ((16 : Int) ≤ (L.length : Int)) = true := by simp; omega
      have HOP := Lib.hid (fun (W : World) (hW : Below w.heap.size w W) => (by
        have := open_any tb mb k L.length T qi W (h2.table.below hW) hid (by omega)
        rw [hE, hTT, hCC] at this; exact this : Calls Try.prog 17 #[.pointer (some ⟨tb, 0, none⟩), .int .i64 qi] W fun e w' => e = .returned (.int .i64 16) ∧ Left10 W tb mb (k + 1) L.length T w'))
      have HC := Lib.hid (fun (W : World) (hW : Below w.heap.size w W) => (h2.mod.below hW).cell)
      clear hE hTT hCC h2 hai hok hno hs hc16 hn
      unfold actV
      go_enter Try.func12, Try.ntmps12
      go_upto_region 1 with fail
      obtain ⟨w1, hw1⟩ : ∃ w1, w1 = w.alloc (.cells #[.int .i64 qk, .int .i64 qi, .int .i64 qr, .string qa] 32) := ⟨_, rfl⟩
      rw [← hw1] at b1 N1 ⊢
      have hlt : w.heap.size < w1.heap.size := (Array.getElem?_eq_some_iff.1 N1).1
      have c1 : w1.cell? ⟨w.heap.size, 1, none⟩ = some (.int .i64 qi) := by simp [World.cell?, N1]
      clear hw1
      go_wp2_with fail
      refine (HA.out _ b1).mono ?_
      rintro e w2 ⟨rfl, b2⟩
      have N2 := (b2.block w.heap.size hlt).trans N1
      replace b2 := b1.trans (b2.mono b1.size)
      clear N1 b1 c1 hlt
      have c0 : w2.cell? ⟨w.heap.size, 0, none⟩ = some (.int .i64 qk) := by simp [World.cell?, N2]
      have c1 : w2.cell? ⟨w.heap.size, 1, none⟩ = some (.int .i64 qi) := by simp [World.cell?, N2]
      have c2 : w2.cell? ⟨w.heap.size, 2, none⟩ = some (.int .i64 qr) := by simp [World.cell?, N2]
      have c3 : w2.cell? ⟨w.heap.size, 3, none⟩ = some (.string qa) := by simp [World.cell?, N2]
      have hlt2 : w.heap.size < w2.heap.size := (Array.getElem?_eq_some_iff.1 N2).1
      have HN2 := Lib.hid N2
      clear N2
      have x0 := HC.out _ b2
      go_wp2_with fail
      refine (HOP.out _ b2).mono ?_
      rintro e w3 ⟨rfl, L3⟩
      have M3 := (H2.out.mod.below b2).left L3.2 H2.out.ne.2.1 (fun g hg => (H2.out.ne.2.2 g hg).2)
      have b3 := (b2.mono hm0).trans (left10_below L3 H2.out.above.2.1 (Nat.le_trans hm0 b2.size))
      go_wp2_with fail
      go_ret
      exact ⟨by simp, b3, (Onl.below b2).left b2.size L3.2, cap, a, T, L, ⟨L3.1, M3, H2.out.rep, H2.out.few, H2.out.small, H2.out.ne, H2.out.above.1, H2.out.above.2.1, H2.out.above.2.2.1, Nat.le_trans hm0 (by have := b2.size; have := L3.2.size; omega), H2.out.above.2.2.2.2⟩⟩
    · have hE : openE T L.length qi = 12 := by unfold openE; rw [if_neg (by rw [hok]; decide), hs, if_pos rfl]
      have hTT : openT T L.length qi = T := by unfold openT; rw [hE, if_neg (by decide)]
      have hCC : openC T L.length qi = L.length := by unfold openC; rw [hE, if_neg (by decide)]
      obtain ⟨s, hTs⟩ := Option.isSome_iff_exists.1 hs
      obtain ⟨i, hi, _⟩ := h2.rep.at_some hTs
      rw [hi] at hai
      subst hai
      have e3 : decide ((0 : Int) ≤ (i : Int)) = true := by simp
      have HOP := Lib.hid (fun (W : World) (hW : Below w.heap.size w W) => (by
        have := open_any tb mb k L.length T qi W (h2.table.below hW) hid (by omega)
        rw [hE, hTT, hCC] at this; exact this : Calls Try.prog 17 #[.pointer (some ⟨tb, 0, none⟩), .int .i64 qi] W fun e w' => e = .returned (.int .i64 12) ∧ Left10 W tb mb (k + 1) L.length T w'))
      have HC := Lib.hid (fun (W : World) (hW : Below w.heap.size w W) => (h2.mod.below hW).cell)
      clear hE hTT hCC h2 hok hno hs hi hTs
      unfold actV
      go_enter Try.func12, Try.ntmps12
      go_upto_region 1 with fail
      obtain ⟨w1, hw1⟩ : ∃ w1, w1 = w.alloc (.cells #[.int .i64 qk, .int .i64 qi, .int .i64 qr, .string qa] 32) := ⟨_, rfl⟩
      rw [← hw1] at b1 N1 ⊢
      have hlt : w.heap.size < w1.heap.size := (Array.getElem?_eq_some_iff.1 N1).1
      have c1 : w1.cell? ⟨w.heap.size, 1, none⟩ = some (.int .i64 qi) := by simp [World.cell?, N1]
      clear hw1
      go_wp2_with fail
      refine (HA.out _ b1).mono ?_
      rintro e w2 ⟨rfl, b2⟩
      have N2 := (b2.block w.heap.size hlt).trans N1
      replace b2 := b1.trans (b2.mono b1.size)
      clear N1 b1 c1 hlt
      have c0 : w2.cell? ⟨w.heap.size, 0, none⟩ = some (.int .i64 qk) := by simp [World.cell?, N2]
      have c1 : w2.cell? ⟨w.heap.size, 1, none⟩ = some (.int .i64 qi) := by simp [World.cell?, N2]
      have c2 : w2.cell? ⟨w.heap.size, 2, none⟩ = some (.int .i64 qr) := by simp [World.cell?, N2]
      have c3 : w2.cell? ⟨w.heap.size, 3, none⟩ = some (.string qa) := by simp [World.cell?, N2]
      have hlt2 : w.heap.size < w2.heap.size := (Array.getElem?_eq_some_iff.1 N2).1
      have HN2 := Lib.hid N2
      clear N2
      have x0 := HC.out _ b2
      go_wp2_with fail
      refine (HOP.out _ b2).mono ?_
      rintro e w3 ⟨rfl, L3⟩
      have M3 := (H2.out.mod.below b2).left L3.2 H2.out.ne.2.1 (fun g hg => (H2.out.ne.2.2 g hg).2)
      have b3 := (b2.mono hm0).trans (left10_below L3 H2.out.above.2.1 (Nat.le_trans hm0 b2.size))
      go_wp2_with fail
      go_ret
      exact ⟨by simp, b3, (Onl.below b2).left b2.size L3.2, cap, a, T, L, ⟨L3.1, M3, H2.out.rep, H2.out.few, H2.out.small, H2.out.ne, H2.out.above.1, H2.out.above.2.1, H2.out.above.2.2.1, Nat.le_trans hm0 (by have := b2.size; have := L3.2.size; omega), H2.out.above.2.2.2.2⟩⟩
set_option maxHeartbeats 8000000 in
theorem sdo_open_ok (m tb mb k mp cap : Nat) (a : Option Addr) (T : Int → Option Ss) (L : List Me) (q : Sa) (w : World) (h2 : TwoS m w tb mb k mp cap a T L) (hid : InR q.id) (hk : k < 100000) (hq : wrap64 ((IntKind.u64.wrap q.k).tmod 5) = 0) (hok : okN q.id = true) (hn : T q.id = none) (h16 : L.length < 16) :
    Calls Try.prog 12 #[.pointer (some ⟨mp, 0, none⟩), .pointer (some ⟨tb, 0, none⟩), actV q] w fun e w' => e = .returned (.bool true) ∧ DoR m w w' tb mb k mp a := by
  have H2 := Lib.hid h2
  obtain ⟨qk, qi, qr, qa⟩ := q
  simp only at hid hq hok hn
  have b1 := (Below.refl w.heap.size w).alloc (Nat.le_refl _) (.cells #[.int .i64 qk, .int .i64 qi, .int .i64 qr, .string qa] 32)
  have N1 := heap_alloc_new w (.cells #[.int .i64 qk, .int .i64 qi, .int .i64 qr, .string qa] 32)
  have hl1000 : L.length ≤ 1000 := by have := h2.few; omega
  have HA := Lib.hid (fun (W : World) (hW : Below w.heap.size w W) => at_any mp cap a L qi W (h2.mod.below hW) hl1000)
  have hm0 := h2.above.2.2.2.1
  rw [h2.rep.at_none hn] at HA
  have e1 : decide (qi < 1) = false := by unfold okN at hok; rw [Bool.and_eq_true] at hok; simp at hok; simp; omega
  have e2 : decide (281474976710655 < qi) = false := by unfold okN at hok; rw [Bool.and_eq_true] at hok; simp at hok; simp; omega
  have e3 : decide ((16 : Int) ≤ (L.length : Int)) = false := by simp; omega
  have hE : openE T L.length qi = 0 := by unfold openE; rw [if_neg (by rw [hok]; decide), hn, if_neg (by decide), if_neg (by omega)]
  have hTT : openT T L.length qi = updS T qi (some Ss.zero) := by unfold openT; rw [hE, if_pos rfl]
  have hCC : openC T L.length qi = L.length + 1 := by unfold openC; rw [hE, if_pos rfl]
  have HOP := Lib.hid (fun (W : World) (hW : TbW W tb mb k L.length T) => (by
    have := open_any tb mb k L.length T qi W hW hid (by omega)
    rw [hE, hTT, hCC] at this; exact this : Calls Try.prog 17 #[.pointer (some ⟨tb, 0, none⟩), .int .i64 qi] W fun e w' => e = .returned (.int .i64 0) ∧ Left10 W tb mb (k + 1) (L.length + 1) (updS T qi (some Ss.zero)) w'))
  have HM := Lib.hid h2.mod
  have HIN := Lib.hid (fun j h3 h4 => h2.rep.ins hn Ss.zero j h3 h4)
  have HOQ := Lib.hid hok
  clear hE hTT hCC h2 hok hn
  unfold actV
  go_enter Try.func12, Try.ntmps12
  go_upto_region 1 with fail
  obtain ⟨w1, hw1⟩ : ∃ w1, w1 = w.alloc (.cells #[.int .i64 qk, .int .i64 qi, .int .i64 qr, .string qa] 32) := ⟨_, rfl⟩
  rw [← hw1] at b1 N1 ⊢
  have hlt : w.heap.size < w1.heap.size := (Array.getElem?_eq_some_iff.1 N1).1
  have c1 : w1.cell? ⟨w.heap.size, 1, none⟩ = some (.int .i64 qi) := by simp [World.cell?, N1]
  clear hw1
  go_wp2_with fail
  refine (HA.out _ b1).mono ?_
  rintro e w2 ⟨rfl, b2⟩
  have N2 := (b2.block w.heap.size hlt).trans N1
  replace b2 := b1.trans (b2.mono b1.size)
  clear N1 b1 c1 hlt
  have c0 : w2.cell? ⟨w.heap.size, 0, none⟩ = some (.int .i64 qk) := by simp [World.cell?, N2]
  have c1 : w2.cell? ⟨w.heap.size, 1, none⟩ = some (.int .i64 qi) := by simp [World.cell?, N2]
  have c2 : w2.cell? ⟨w.heap.size, 2, none⟩ = some (.int .i64 qr) := by simp [World.cell?, N2]
  have c3 : w2.cell? ⟨w.heap.size, 3, none⟩ = some (.string qa) := by simp [World.cell?, N2]
  have hlt2 : w.heap.size < w2.heap.size := (Array.getElem?_eq_some_iff.1 N2).1
  have HN2 := Lib.hid N2
  clear N2
  have x0 := (HM.out.below b2).cell
  go_upto_block 2 with fail
  go_cut [9] (fun iv wr => ∃ j : Nat, j ≤ L.length ∧ iv = .int .i64 (j : Int) ∧ Hid (∀ q e, q < j → L[q]? = some e → e.1 < qi) ∧ Hid (∀ e, L[j]? = some e → qi ≤ e.1) ∧ Below w2.heap.size w2 wr)
  case first =>
    go_wp2_with fail
    go_loopw [9] (fun iv wr => ∃ j : Nat, j ≤ L.length ∧ iv = .int .i64 j ∧ Hid (∀ q e, q < j → L[q]? = some e → e.1 < qi) ∧ Below w2.heap.size w2 wr) (fun iv _ => L.length - (intOf iv).toNat)
    case atStart => exact ⟨0, by omega, rfl, Lib.hid (fun q e h => (by omega)), Below.refl _ _⟩
    case round =>
      obtain ⟨j, hj, rfl, HLO, bk⟩ := hrel
      have hkN := (bk.block w.heap.size hlt2).trans HN2.out
      have k1 : wr.cell? ⟨w.heap.size, 1, none⟩ = some (.int .i64 qi) := by simp [World.cell?, hkN]
      have hbr := b2.trans (bk.mono b2.size)
      have hMr := HM.out.below hbr
      have y0 := hMr.cell
      have j0 : (0 : Int) ≤ (j : Int) := by omega
      have t2 : IntKind.i64.wrap ((j : Int) + 1) = (j : Int) + 1 := IntWalk.i64_in _ (by omega)
      clear c0 c1 c2 c3 x0
      have hex : (∃ e, L[j]? = some e ∧ e.1 < qi ∧ j < L.length) ∨ (∃ e, L[j]? = some e ∧ qi ≤ e.1 ∧ j < L.length) ∨ j = L.length := by
        by_cases hlt : j < L.length
        · obtain ⟨e, he⟩ : ∃ e, L[j]? = some e := ⟨L[j], by simp [hlt]⟩
          by_cases h : e.1 < qi
          · exact .inl ⟨e, he, h, hlt⟩
          · exact .inr (.inl ⟨e, he, by omega, hlt⟩)
        · exact .inr (.inr (by omega))
      rcases hex with ⟨e, he, hlq, hjl⟩ | hex
      · obtain ⟨g, rfl, z0, z1, z2⟩ := hMr.cells j e he
        have f1 : decide ((j : Int) < (L.length : Int)) = true := by simp; omega
        have f2 : decide (e.1 < qi) = true := by simpa using hlq
        have hji : (j : Int) < (L.length : Int) := by omega
        have HL2 : Hid (∀ q x, q < j + 1 → L[q]? = some x → x.1 < qi) := Lib.hid (fun q x hq hx => by
          by_cases hqj : q = j
          · subst hqj; rw [he] at hx; injection hx with hx; rw [← hx]; exact hlq
          · exact HLO.out q x (by omega) hx)
        clear hMr hkN hbr z1 z2 he hlq
        go_upto_region 6 with fail
        go_quiet (fail)
        go_wp2_with fail
        go_roundw
        case rel => exact ⟨j + 1, by omega, by go_num, HL2, by first | exact bk | exact (bk.trans ((drewN_below10 _ _).mono bk.size))⟩
        case measure => simp [intOf]; omega
      · have HHI : Hid (∀ e, L[j]? = some e → qi ≤ e.1) := Lib.hid (fun x hx => by
          rcases hex with ⟨e, he, h, _⟩ | h
          · rw [he] at hx; injection hx with hx; rw [← hx]; exact h
          · rw [h, List.getElem?_eq_none (Nat.le_refl _)] at hx; cases hx)
        have HJN : Hid (j ≤ L.length) := Lib.hid hj
        rcases hex with ⟨e, he, hlq, hjl⟩ | hex
        · obtain ⟨g, rfl, z0, z1, z2⟩ := hMr.cells j e he
          have f1 : decide ((j : Int) < (L.length : Int)) = true := by simp; omega
          have f2 : decide (e.1 < qi) = false := by simp; omega
          have hji : (j : Int) < (L.length : Int) := by omega
          clear hMr hbr z1 z2 he hlq
          go_upto_region 6 with fail
          go_quiet (fail)
          go_wp2_with fail
          go_meet
          exact ⟨j, HJN.out, rfl, HLO, HHI, by first | exact bk | exact (bk.trans ((drewN_below10 _ _).mono bk.size))⟩
        · have f1 : decide ((j : Int) < (L.length : Int)) = false := by simp; omega
          clear hMr hbr hex
          go_upto_region 6 with fail
          have HC6 : Hid (∀ W : World, Below wr.drew.heap.size wr.drew W → W.cell? ⟨mp, 0, none⟩ = some (Value.slice a L.length cap)) := Lib.hid fun W hW => (HM.out.below (b2.trans ((bk.trans (((Below.refl _ wr).drew.trans (hW.mono (Nat.le_refl _))).mono bk.size)).mono b2.size))).cell
          have HD6 : Hid (∀ W : World, Below wr.drew.heap.size wr.drew W → Below w2.heap.size w2 W) := Lib.hid fun W hW => bk.trans (((Below.refl _ wr).drew.trans (hW.mono (Nat.le_refl _))).mono bk.size)
          have HLS := Lib.hid f1
          go_cut [50] (fun p wx => p = .bool false ∧ Below w2.heap.size w2 wx)
          case first =>
            refine wp_region_steps (FR6 mp a L.length cap j) (fun w w' => Below w.heap.size w w') (by kernel_rfl) (by kernel_rfl) (by kernel_rfl) (Below.refl _ _) ?_ (fun u v w h1 h2 => h1.trans (h2.mono h1.size)) ?_ ?_
            · intro i v w w' _ h1 h2
              exact FR6_keep i h1
            · intro i o ho x w1 hR hF
              match i, ho with
              | 0, ho =>
                obtain rfl := Option.some.inj ho
                exact gstep_move rfl (wanted0 rfl) _ rfl _ (eval_of 9 _ (by kernel_rfl) rfl) ⟨_, rfl, rfl, Below.refl _ _⟩
              | 1, ho =>
                obtain rfl := Option.some.inj ho
                exact gstep_move rfl (wanted0 rfl) _ rfl _ (eval_of 0 _ (by kernel_rfl) rfl) ⟨_, rfl, rfl, Below.refl _ _⟩
              | 2, ho =>
                obtain rfl := Option.some.inj ho
                exact gstep_nil rfl (wanted0 rfl) _ rfl _ (eval_at 32 1 _ (by kernel_rfl) (show 32 < 220 by decide) (hF 1 (by kernel_rfl))) ⟨_, rfl, rfl, Below.refl _ _⟩
              | 3, ho =>
                obtain rfl := Option.some.inj ho
                exact gstep_field rfl (wanted0 rfl) _ _ _ rfl _ (eval_at 33 2 _ (by kernel_rfl) (show 33 < 220 by decide) (hF 2 (by kernel_rfl))) _ (run_mdf w1 _) ⟨_, rfl, rfl, Below.refl _ _⟩
              | 4, ho =>
                obtain rfl := Option.some.inj ho
                exact gstep_load rfl (wanted0 rfl) _ _ rfl _ (eval_at 34 3 _ (by kernel_rfl) (show 34 < 220 by decide) (hF 3 (by kernel_rfl))) _ (run_loadMs w1 _ _ _ _ (HC6.out w1 hR)) ⟨_, rfl, rfl, Below.refl _ _⟩
              | 5, ho =>
                obtain rfl := Option.some.inj ho
                exact gstep_len rfl (wanted0 rfl) _ rfl _ _ _ (eval_at 35 4 _ (by kernel_rfl) (show 35 < 220 by decide) (hF 4 (by kernel_rfl))) ⟨_, rfl, rfl, Below.refl _ _⟩
              | 6, ho =>
                obtain rfl := Option.some.inj ho
                exact gstep_bin rfl (wanted0 rfl) _ _ _ _ _ rfl _ _ (eval_at 31 0 _ (by kernel_rfl) (show 31 < 220 by decide) (hF 0 (by kernel_rfl))) (eval_at 36 5 _ (by kernel_rfl) (show 36 < 220 by decide) (hF 5 (by kernel_rfl))) _ (run_lssF w1 _ _ HLS.out _ _) ⟨_, rfl, rfl, Below.refl _ _⟩
              | 7, ho =>
                obtain rfl := Option.some.inj ho
                exact gstep_move rfl (wanted0 rfl) _ rfl _ (eval_at 37 6 _ (by kernel_rfl) (show 37 < 220 by decide) (hF 6 (by kernel_rfl))) ⟨_, rfl, rfl, Below.refl _ _⟩
              | 8, ho =>
                obtain rfl := Option.some.inj ho
                exact gstep_skip rfl (wanted_at 38 7 true _ false rfl (by kernel_rfl) (show 38 < 220 by decide) (hF 7 (by kernel_rfl)) rfl) ⟨_, rfl, rfl, Below.refl _ _⟩
              | 9, ho =>
                obtain rfl := Option.some.inj ho
                exact gstep_skip rfl (wanted_at 38 7 true _ false rfl (by kernel_rfl) (show 38 < 220 by decide) (hF 7 (by kernel_rfl)) rfl) ⟨_, rfl, rfl, Below.refl _ _⟩
              | 10, ho =>
                obtain rfl := Option.some.inj ho
                exact gstep_skip rfl (wanted_at 38 7 true _ false rfl (by kernel_rfl) (show 38 < 220 by decide) (hF 7 (by kernel_rfl)) rfl) ⟨_, rfl, rfl, Below.refl _ _⟩
              | 11, ho =>
                obtain rfl := Option.some.inj ho
                exact gstep_skip rfl (wanted_at 38 7 true _ false rfl (by kernel_rfl) (show 38 < 220 by decide) (hF 7 (by kernel_rfl)) rfl) ⟨_, rfl, rfl, Below.refl _ _⟩
              | 12, ho =>
                obtain rfl := Option.some.inj ho
                exact gstep_skip rfl (wanted_at 38 7 true _ false rfl (by kernel_rfl) (show 38 < 220 by decide) (hF 7 (by kernel_rfl)) rfl) ⟨_, rfl, rfl, Below.refl _ _⟩
              | 13, ho =>
                obtain rfl := Option.some.inj ho
                exact gstep_skip rfl (wanted_at 38 7 true _ false rfl (by kernel_rfl) (show 38 < 220 by decide) (hF 7 (by kernel_rfl)) rfl) ⟨_, rfl, rfl, Below.refl _ _⟩
              | 14, ho =>
                obtain rfl := Option.some.inj ho
                exact gstep_skip rfl (wanted_at 38 7 true _ false rfl (by kernel_rfl) (show 38 < 220 by decide) (hF 7 (by kernel_rfl)) rfl) ⟨_, rfl, rfl, Below.refl _ _⟩
              | 15, ho =>
                obtain rfl := Option.some.inj ho
                exact gstep_skip rfl (wanted_at 38 7 true _ false rfl (by kernel_rfl) (show 38 < 220 by decide) (hF 7 (by kernel_rfl)) rfl) ⟨_, rfl, rfl, Below.refl _ _⟩
              | 16, ho =>
                obtain rfl := Option.some.inj ho
                exact gstep_skip rfl (wanted_at 38 7 true _ false rfl (by kernel_rfl) (show 38 < 220 by decide) (hF 7 (by kernel_rfl)) rfl) ⟨_, rfl, rfl, Below.refl _ _⟩
              | 17, ho =>
                obtain rfl := Option.some.inj ho
                exact gstep_skip rfl (wanted_at 38 7 true _ false rfl (by kernel_rfl) (show 38 < 220 by decide) (hF 7 (by kernel_rfl)) rfl) ⟨_, rfl, rfl, Below.refl _ _⟩
              | 18, ho =>
                obtain rfl := Option.some.inj ho
                exact gstep_skip rfl (wanted_at 38 7 true _ false rfl (by kernel_rfl) (show 38 < 220 by decide) (hF 7 (by kernel_rfl)) rfl) ⟨_, rfl, rfl, Below.refl _ _⟩
              | 19, ho =>
                obtain rfl := Option.some.inj ho
                exact gstep_pick rfl (wanted0 rfl) _ _ _ rfl false (eval_at 38 7 _ (by kernel_rfl) (show 38 < 220 by decide) (hF 7 (by kernel_rfl))) _ (by rw [if_neg (by decide)]; exact rfl) ⟨_, rfl, rfl, Below.refl _ _⟩
              | n + 20, ho => simp at ho
            · intro x w1 hR hF
              have h19 : x 19 = .bool false := hF 19 (by decide)
              simp only [putAll, Act.put, List.setIfInBounds_toArray, List.set_cons_succ, List.set_cons_zero]
              go_wp2_with fail
              go_meet
              exact ⟨h19, HD6.out w1 hR⟩
          case rest =>
            obtain ⟨rfl, b66⟩ := hcut
            go_wp2_with fail
            go_meet
            exact ⟨j, HJN.out, rfl, HLO, HHI, b66⟩
  case rest =>
    clear hq
    obtain ⟨j, hj, rfl, HLO, HHI, bk⟩ := hcut
    obtain ⟨wq, hwq⟩ : ∃ wq, wq = wc := ⟨_, rfl⟩
    subst hwq
    have HJN : Hid (j ≤ L.length) := Lib.hid hj
    have hcap := HM.out.cap_le
    have HNL : Hid (L.length ≤ cap ∧ L.length ≤ 1000) := Lib.hid ⟨hcap.1, hl1000⟩
    have hbq := b2.trans (bk.mono b2.size)
    have HMQ := Lib.hid (HM.out.below hbq)
    have HBQ := Lib.hid hbq
    have hNq := Lib.hid ((bk.block w.heap.size hlt2).trans HN2.out)
    have hsq : w.heap.size < wq.heap.size := (Array.getElem?_eq_some_iff.1 hNq.out).1
    go_upto_region 8 with fail
    go_cut [10] (fun v w5 => ∃ g5 c10, v = .slice (some ⟨g5, 0, none⟩) (L.length - j) c10 ∧ Below wq.heap.size wq w5 ∧ (∀ W : World, Below w5.heap.size w5 W → ∀ i u, (meCells (L.drop j))[i]? = some u → W.cell? ((⟨g5, 0, none⟩ : Addr).add i) = some u))
    case first =>
      have x1 := HMQ.out.cell
      have hmq := HMQ.out.ltm
      have hmne : ¬ mp = wq.heap.size := by omega
      have hmne2 : ¬ wq.heap.size = mp := by omega
      have hj8 : (j : Int) ≤ (L.length : Int) := by omega
      have RM := World.ownsRow_made (base := wq.heap.size) (e := 48) (size := 3) wq #[] 0 (Nat.le_refl _) (Nat.zero_le _) rfl
      obtain ⟨i1, hi1, hz1, hz2, hz3⟩ := info_parts info_me
      rcases HM.out.form with ⟨rfl, hLn, rfl⟩ | ⟨g, rfl⟩
      · have HZ : Hid (L.length = 0 ∧ j = 0 ∧ L.drop j = []) := Lib.hid (by subst hLn; exact ⟨rfl, by simpa using hj, by simp⟩)
        have hj0 := HZ.out.2.1
        have hL0 := HZ.out.1
        rw [hL0] at x1
        subst hj0
        clear hLn hL0
        go_wp2_with (at_builtin; refine wpList_append_own_none rfl _ _ _ rfl wq.heap.size 48 i1 3 und_mes hi1 (.slice (some ⟨wq.heap.size, 0, none⟩) 0 0) 0 [] rfl RM rfl ?_; go_frame)
        have bA5 := (Below.refl _ wq).alloc (Nat.le_refl _) (.cells #[] 48)
        go_meet
        exact ⟨wq.heap.size, 0, by rw [HZ.out.1], bA5, fun W hW i u hu => by rw [HZ.out.2.2] at hu; simp [meCells] at hu⟩
      · by_cases hcj : cap = j
        · subst hcj
          have HZ : Hid (L.drop cap = []) := Lib.hid (List.drop_of_length_le hcap.1)
          have HZ0 : Hid (L.length - cap = 0) := Lib.hid (by omega)
          have HNA : Hid (∀ q u, ([] : List Value)[q]? = some u → (wq.alloc (.cells #[] 48)).cell? ((⟨g, 0, none⟩ : Addr).add q) = some u) := Lib.hid (fun q u hq => by simp at hq)
          go_wp2_with (at_builtin; refine wpList_append_own _ rfl _ _ _ rfl wq.heap.size 48 i1 _ 3 32 und_mes hi1 hz1 hz2 hz3 rfl (by decide) (.slice (some ⟨wq.heap.size, 0, none⟩) 0 0) 0 [] rfl RM ⟨g, 0, none⟩ 0 0 ([]) rfl rfl (fun q u hq => HNA.out q u hq) (fun u hu => by cases hu) (by unfold maxLen; omega) (by omega) (by simp) ?_; intro v5 w5 hown5 hgrow5 hiff5; go_frame)
          rw [Nat.zero_add, List.nil_append] at hown5
          have hv5 : ∃ g5 c5, v5 = .slice (some ⟨g5, 0, none⟩) 0 c5 := by
            rcases hown5.2 with ⟨h3, _⟩ | ⟨g5, c5, cur, h3, _⟩
            · have := (hiff5.1 h3).1; cases this
            · exact ⟨g5, c5, h3⟩
          obtain ⟨g5, c10, rfl⟩ := hv5
          have bA5 := (Below.refl _ wq).alloc (Nat.le_refl _) (.cells #[] 48)
          have b5 : Below wq.heap.size wq w5 := bA5.grown hgrow5 bA5.size (fun q hq => by simp [Value.ownBlock] at hq; omega)
          go_meet
          exact ⟨g5, c10, by rw [HZ0.out], b5, fun W hW i u hu => by rw [HZ.out] at hu; simp [meCells] at hu⟩
        · have hj4 : ¬ cap = j := hcj
          have hj5 : ¬ j = cap := fun e => hcj e.symm
          have hj7 : j < cap := by omega
          have hj6 : (j : Int) ≤ (cap : Int) := by omega
          have HNA : Hid (∀ q u, (meCells (L.drop j))[q]? = some u → (wq.alloc (.cells #[] 48)).cell? ((⟨g, j * 3, none⟩ : Addr).add q) = some u) := Lib.hid (fun q u hq => by
            rw [meCells_drop] at hq
            have hlt := (List.getElem?_eq_some_iff.1 hq).1
            rw [meCells_len] at hlt
            rw [show (⟨g, j * 3, none⟩ : Addr).add q = ⟨g, j * 3 + q, none⟩ by simp [Addr.add], ((Below.refl wq.heap.size wq).alloc (Nat.le_refl _) _).cell (p := ⟨g, j * 3 + q, none⟩) (HMQ.out.ltg rfl), HMQ.out.row.cellAt (j * 3 + q) hlt, hq])
          go_wp2_with (at_builtin; refine wpList_append_own _ rfl _ _ _ rfl wq.heap.size 48 i1 _ 3 32 und_mes hi1 hz1 hz2 hz3 rfl (by decide) (.slice (some ⟨wq.heap.size, 0, none⟩) 0 0) 0 [] rfl RM ⟨g, j * 3, none⟩ (L.length - j) (cap - j) (meCells (L.drop j)) rfl (by rw [meCells_len, List.length_drop]) (fun q u hq => HNA.out q u hq) (meCells_one _) (by unfold maxLen; omega) (by omega) (by simp) ?_; intro v5 w5 hown5 hgrow5 hiff5; go_frame)
          rw [Nat.zero_add, List.nil_append] at hown5
          have hv5 : ∃ g5 c5, v5 = .slice (some ⟨g5, 0, none⟩) (L.length - j) c5 := by
            rcases hown5.2 with ⟨h3, _⟩ | ⟨g5, c5, cur, h3, _⟩
            · have := (hiff5.1 h3).1; cases this
            · exact ⟨g5, c5, h3⟩
          obtain ⟨g5, c10, rfl⟩ := hv5
          have bA5 := (Below.refl _ wq).alloc (Nat.le_refl _) (.cells #[] 48)
          have b5 : Below wq.heap.size wq w5 := bA5.grown hgrow5 bA5.size (fun q hq => by simp [Value.ownBlock] at hq; omega)
          go_meet
          exact ⟨g5, c10, rfl, b5, (fun W hW i u hu => by
            have hlt := (List.getElem?_eq_some_iff.1 hu).1
            have hg5 := (hown5.lt g5 rfl).2
            rw [show (⟨g5, 0, none⟩ : Addr).add i = ⟨g5, i, none⟩ by rw [Addr.add_lit, Nat.zero_add], hW.cell (p := ⟨g5, i, none⟩) hg5, hown5.cellAt i (by rw [meCells_len, List.length_drop] at hlt; omega), hu])⟩
    case rest =>
      obtain ⟨g5, c10, rfl, b55, hod⟩ := hcut
      obtain ⟨w5, hw5⟩ : ∃ w5, w5 = wc := ⟨_, rfl⟩
      subst hw5
      have b5 : Below w.heap.size w w5 := HBQ.out.trans (b55.mono HBQ.out.size)
      have N5 := (b55.block w.heap.size hsq).trans hNq.out
      obtain ⟨ad, had⟩ : ∃ ad : Addr, ad = ⟨g5, 0, none⟩ := ⟨_, rfl⟩
      rw [← had] at hod ⊢
      have HOD0 := Lib.hid hod
      clear hod had b55 hbq hsq
      have HB5 := Lib.hid b5
      have HN5 : Hid (w5.heap[w.heap.size]? = some (.cells #[.int .i64 qk, .int .i64 qi, .int .i64 qr, .string qa] 32 (0, 0))) := Lib.hid N5
      have hlt5 : w.heap.size < w5.heap.size := (Array.getElem?_eq_some_iff.1 N5).1
      obtain ⟨wd, hwd⟩ : ∃ wd, wd = w5 := ⟨_, rfl⟩
      subst hwd
      have HDR : Hid (∀ W : World, Below wd.drew.heap.size wd.drew W → Below w.heap.size w W) := Lib.hid fun W hW => HB5.out.trans (((Below.refl _ wd).drew.trans (hW.mono (Nat.le_refl _))).mono HB5.out.size)
      have HCE : Hid (∀ W : World, Below wd.drew.heap.size wd.drew W → W.cell? ⟨mp, 0, none⟩ = some (Value.slice a L.length cap) ∧ W.cell? ⟨w.heap.size, 1, none⟩ = some (.int .i64 qi) ∧ W.frozen? ⟨mp, 0, none⟩ = false) := Lib.hid fun W hW => by
        have hW' : Below wd.heap.size wd W := (Below.refl _ wd).drew.trans (hW.mono (Nat.le_refl _))
        have hN := (hW'.block w.heap.size hlt5).trans HN5.out
        exact ⟨(HM.out.below (HDR.out W hW)).cell, by simp [World.cell?, hN], (HM.out.below (HDR.out W hW)).frz⟩
      have HNO : Hid ((a : Option Addr) = none → L.length = 0 ∧ cap = 0) := Lib.hid fun h => by
        rcases HM.out.form with ⟨_, h3, h4⟩ | ⟨g', h3⟩
        · exact ⟨by rw [h3]; rfl, h4⟩
        · rw [h] at h3; cases h3
      have HLT : Hid ((meCells (L.take j)).length = j * 3) := Lib.hid (by rw [meCells_len, List.length_take, Nat.min_eq_left HJN.out])
      have HLD : Hid ((meCells (L.drop j)).length = (L.length - j) * 3) := Lib.hid (by rw [meCells_len, List.length_drop])
      have HLE : Hid (j + 1 + (L.length - j) = L.length + 1) := Lib.hid (by have := HJN.out; omega)
      have HOL : Hid (∀ W : World, Below wd.drew.heap.size wd.drew W → ∀ b, (a : Option Addr) = some b → ∀ i u, (meCells (L.take j))[i]? = some u → W.cell? (b.add i) = some u) := Lib.hid fun W hW b hb i u hu => by
        rcases HM.out.form with ⟨h3, _, _⟩ | ⟨g', h3⟩
        · rw [hb] at h3; cases h3
        · rw [hb] at h3
          obtain rfl : b = ⟨g', 0, none⟩ := Option.some.inj h3
          have h1 := meCells_take L j i u hu
          have hlt := (List.getElem?_eq_some_iff.1 h1).1
          rw [meCells_len] at hlt
          have hm := HM.out.below (HDR.out W hW)
          rw [hb] at hm
          rw [show (⟨g', 0, none⟩ : Addr).add i = ⟨g', i, none⟩ by rw [Addr.add_lit, Nat.zero_add], hm.row.cellAt i hlt, h1]
      have HOD : Hid (∀ W : World, Below wd.drew.heap.size wd.drew W → ∀ i u, (meCells (L.drop j))[i]? = some u → W.cell? (ad.add i) = some u) := Lib.hid fun W hW i u hu => HOD0.out W ((Below.refl _ wd).drew.trans (hW.mono (Nat.le_refl _))) i u hu
      clear b5 N5
      go_upto_region 9 with fail
      refine wp_region_inv_last 17 (IFJ (FOp mp w.heap.size a L.length cap j qi ad c10) (JOp wd.drew L j qi)) (by kernel_rfl) (by kernel_rfl) (by kernel_rfl) (by kernel_rfl) (by kernel_rfl) ?_ ?_ ?_
      · intro x
        exact ⟨fun j hj => (by cases hj), Below.refl _ _, (by simp), (by simp), (by simp)⟩
      · intro i o hi ho b x w1 hI hbi hW
        have hF : ∀ k, Region.waitsFor .any _ i k = true → FOp mp w.heap.size a L.length cap j qi ad c10 k (x k) := fun k hk => hI.1 k (hW k hk)
        match i, ho with
        | 0, ho =>
          obtain rfl := Option.some.inj ho
          exact gstep_move rfl (wanted0 rfl) _ rfl _ (eval_of 0 _ (by kernel_rfl) rfl) ⟨_, rfl, IFJ.step hI rfl (JOp.pure hI.2 (by decide))⟩
        | 1, ho =>
          obtain rfl := Option.some.inj ho
          exact gstep_move rfl (wanted0 rfl) _ rfl _ (eval_of 0 _ (by kernel_rfl) rfl) ⟨_, rfl, IFJ.step hI rfl (JOp.pure hI.2 (by decide))⟩
        | 2, ho =>
          obtain rfl := Option.some.inj ho
          exact gstep_nil rfl (wanted0 rfl) _ rfl _ (eval_at 62 1 _ (by kernel_rfl) (show 62 < 220 by decide) (hF 1 (by kernel_rfl))) ⟨_, rfl, IFJ.step hI rfl (JOp.pure hI.2 (by decide))⟩
        | 3, ho =>
          obtain rfl := Option.some.inj ho
          exact gstep_field rfl (wanted0 rfl) _ _ _ rfl _ (eval_at 63 2 _ (by kernel_rfl) (show 63 < 220 by decide) (hF 2 (by kernel_rfl))) _ (run_mdf w1 _) ⟨_, rfl, IFJ.step hI rfl (JOp.pure hI.2 (by decide))⟩
        | 4, ho =>
          obtain rfl := Option.some.inj ho
          exact gstep_load rfl (wanted0 rfl) _ _ rfl _ (eval_at 64 3 _ (by kernel_rfl) (show 64 < 220 by decide) (hF 3 (by kernel_rfl))) _ (run_loadMs w1 _ _ _ _ (HCE.out w1 hI.2.1).1) ⟨_, rfl, IFJ.step hI rfl (JOp.pure hI.2 (by decide))⟩
        | 5, ho =>
          obtain rfl := Option.some.inj ho
          exact gstep_move rfl (wanted0 rfl) _ rfl _ (eval_of 9 _ (by kernel_rfl) rfl) ⟨_, rfl, IFJ.step hI rfl (JOp.pure hI.2 (by decide))⟩
        | 6, ho =>
          obtain rfl := Option.some.inj ho
          exact gstep_move rfl (wanted0 rfl) _ rfl _ (eval_of 9 _ (by kernel_rfl) rfl) ⟨_, rfl, IFJ.step hI rfl (JOp.pure hI.2 (by decide))⟩
        | 7, ho =>
          obtain rfl := Option.some.inj ho
          exact gstep_slice3 rfl (wanted0 rfl) _ _ _ _ rfl _ _ _ (eval_at 65 4 _ (by kernel_rfl) (show 65 < 220 by decide) (hF 4 (by kernel_rfl))) (eval_at 66 5 _ (by kernel_rfl) (show 66 < 220 by decide) (hF 5 (by kernel_rfl))) (eval_at 67 6 _ (by kernel_rfl) (show 67 < 220 by decide) (hF 6 (by kernel_rfl))) _ (run_cut3 w1 _ _ _ _ HJN.out HNL.out HNO.out) ⟨_, rfl, IFJ.step hI rfl (JOp.pure hI.2 (by decide))⟩
        | 8, ho =>
          obtain rfl := Option.some.inj ho
          exact gstep_field rfl (wanted0 rfl) _ _ _ rfl _ (eval_of 5 _ (by kernel_rfl) rfl) _ (run_fA1 w1 _) ⟨_, rfl, IFJ.step hI rfl (JOp.pure hI.2 (by decide))⟩
        | 9, ho =>
          obtain rfl := Option.some.inj ho
          exact gstep_load rfl (wanted0 rfl) _ _ rfl _ (eval_at 69 8 _ (by kernel_rfl) (show 69 < 220 by decide) (hF 8 (by kernel_rfl))) _ (run_loadI w1 _ _ (HCE.out w1 hI.2.1).2.1) ⟨_, rfl, IFJ.step hI rfl (JOp.pure hI.2 (by decide))⟩
        | 10, ho =>
          obtain rfl := Option.some.inj ho
          exact gstep_build1 rfl (wanted0 rfl) _ _ _ rfl _ (eval_at 70 9 _ (by kernel_rfl) (show 70 < 220 by decide) (hF 9 (by kernel_rfl))) _ (run_bEnt w1 _) ⟨_, rfl, IFJ.step hI rfl (JOp.pure hI.2 (by decide))⟩
        | 11, ho =>
          obtain rfl := Option.some.inj ho
          exact gstep_row1 rfl (wanted0 rfl) _ _ rfl _ (eval_at 71 10 _ (by kernel_rfl) (show 71 < 220 by decide) (hF 10 (by kernel_rfl))) _ _ (run_row1 w1 _) ⟨_, rfl, IFJ.step hI trivial (JOp.one hI.2 hbi)⟩
        | 12, ho =>
          obtain rfl := Option.some.inj ho
          obtain ⟨i1, hi1, hz1, hz2, hz3⟩ := info_parts info_me
          have hb1 : b 11 = true := hW 11 (by kernel_rfl)
          obtain ⟨g1, hx1, hg1⟩ := JOp.at11 hI.2 hb1 hbi
          refine gstep_grow rfl (wanted0 rfl) rfl _ _ _ rfl 48 i1 _ 3 32 und_mes hi1 hz1 hz2 hz3 rfl (by decide) _ j j (meCells (L.take j)) (eval_at 68 7 _ (by kernel_rfl) (show 68 < 220 by decide) (hF 7 (by kernel_rfl))) (fun h => by have := HNO.out h; have := HJN.out; omega) HLT.out (fun b hb i u hu => HOL.out w1 hI.2.1 b hb i u hu) ⟨g1, 0, none⟩ 1 1 (meCells [(qi, Ss.zero)]) (eval_at 72 11 _ (by kernel_rfl) (show 72 < 220 by decide) hx1) rfl (World.news_of_block hg1) (meCells_one _) (by omega) (by have := HJN.out; have := HNL.out; unfold maxLen; omega) (by have := HJN.out; have := HNL.out; omega) ?_
          intro v' w' ho hg
          exact ⟨_, rfl, IFJ.step hI trivial (JOp.two hI.2 hb1 hbi ho hg)⟩
        | 13, ho =>
          obtain rfl := Option.some.inj ho
          exact gstep_move rfl (wanted0 rfl) _ rfl _ (eval_of 10 _ (by kernel_rfl) rfl) ⟨_, rfl, IFJ.step hI rfl (JOp.pure hI.2 (by decide))⟩
        | 14, ho =>
          obtain rfl := Option.some.inj ho
          obtain ⟨i1, hi1, hz1, hz2, hz3⟩ := info_parts info_me
          have hb2 : b 12 = true := hW 12 (by kernel_rfl)
          have hown := JOp.at12 hI.2 hb2 hbi
          refine gstep_append rfl (wanted0 rfl) _ _ _ rfl wd.drew.heap.size 48 i1 _ 3 32 und_mes hi1 hz1 hz2 hz3 rfl (by decide) _ (j + 1) (meCells (L.take j ++ [(qi, Ss.zero)])) (eval_at 73 12 _ (by kernel_rfl) (show 73 < 220 by decide) rfl) hown ad (L.length - j) c10 (meCells (L.drop j)) (eval_at 74 13 _ (by kernel_rfl) (show 74 < 220 by decide) (hF 13 (by kernel_rfl))) HLD.out (fun i u hu => HOD.out w1 hI.2.1 i u hu) (meCells_one _) (by have := HJN.out; have := HNL.out; unfold maxLen; omega) (by have := HJN.out; have := HNL.out; omega) hI.2.1.size ?_
          intro v' w' ho hg
          exact ⟨_, rfl, IFJ.step hI trivial (JOp.three hI.2 hb2 hbi hown (HLE.out ▸ ho) hg)⟩
        | 15, ho =>
          obtain rfl := Option.some.inj ho
          exact gstep_nil rfl (wanted0 rfl) _ rfl _ (eval_at 61 0 _ (by kernel_rfl) (show 61 < 220 by decide) (hF 0 (by kernel_rfl))) ⟨_, rfl, IFJ.step hI rfl (JOp.pure hI.2 (by decide))⟩
        | 16, ho =>
          obtain rfl := Option.some.inj ho
          exact gstep_field rfl (wanted0 rfl) _ _ _ rfl _ (eval_at 76 15 _ (by kernel_rfl) (show 76 < 220 by decide) (hF 15 (by kernel_rfl))) _ (run_mdf w1 _) ⟨_, rfl, IFJ.step hI rfl (JOp.pure hI.2 (by decide))⟩
        | n + 17, ho => omega
      · intro o ho b x w9 hI hA
        obtain rfl := Option.some.inj ho
        have hF : ∀ k, k < 17 → FOp mp w.heap.size a L.length cap j qi ad c10 k (x k) := fun k hk => hI.1 k (hA k hk)
        have hrow := JOp.at14 hI.2 (hA 14 (by decide))
        have hform : ∃ g9 c9, x 14 = .slice (some ⟨g9, 0, none⟩) (L.length + 1) c9 := by
          rcases hrow.2 with ⟨_, h3⟩ | ⟨g9, c9, cur, h3, _⟩
          · omega
          · exact ⟨g9, c9, h3⟩
        obtain ⟨g9, c9, hx14⟩ := hform
        rw [hx14] at hrow
        refine gstep_store rfl (wanted0 rfl) _ _ _ rfl _ _ (eval_at 77 16 _ (by kernel_rfl) (show 77 < 220 by decide) (hF 16 (by decide))) (eval_at 75 14 _ (by kernel_rfl) (show 75 < 220 by decide) hx14) _ (run_storeMs w9 _ _ _ _ _ (HCE.out w9 hI.2.1).1 (HCE.out w9 hI.2.1).2.2) ?_
        have b9 := hI.2.1
        simp only [putAll, Act.put, List.setIfInBounds_toArray, List.set_cons_succ, List.set_cons_zero]
        clear hF hA hI
        have b9' := HDR.out _ b9
        have hlen : (L.take j ++ (qi, Ss.zero) :: L.drop j).length = L.length + 1 := by
          have := HJN.out
          rw [List.length_append, List.length_take, List.length_cons, List.length_drop, Nat.min_eq_left (by omega)]; omega
        have M9 := HM.out.below b9'
        have hmpw : mp < wd.heap.size := Nat.lt_of_lt_of_le HM.out.ltm HB5.out.size
        have hg9 : wd.heap.size ≤ g9 := (hrow.lt g9 rfl).1
        have TB9 : TbW (w9.setCell ⟨mp, 0, none⟩ (.slice (some ⟨g9, 0, none⟩) (L.length + 1) c9)) tb mb k L.length T := by
          have hT9 := H2.out.table.below b9'
          exact ⟨(Below.heap_setCell w9 ⟨mp, 0, none⟩ _ tb H2.out.ne.1).trans hT9.table, hT9.map.keep0 (Below.heap_setCell w9 ⟨mp, 0, none⟩ _ mb H2.out.ne.2.1)⟩
        have MO9 : MoW (w9.setCell ⟨mp, 0, none⟩ (.slice (some ⟨g9, 0, none⟩) (L.length + 1) c9)) mp (some ⟨g9, 0, none⟩) c9 (L.take j ++ (qi, Ss.zero) :: L.drop j) := by
          rw [← hlen] at hrow ⊢
          refine ⟨?_, (ownsRow_less hrow (Nat.zero_le _)).kept (row := some mp) ⟨rfl, rfl, rfl, by simp, fun k _ hk => heap_setCell_other w9 ⟨mp, 0, none⟩ k _ (fun e => hk (by simp [e]))⟩ (.inr (by simp [Value.ownBlock]; omega)), .inr ⟨g9, rfl⟩⟩
          have := bset (i := 0) (u := .slice (some ⟨g9, 0, none⟩) (L.take j ++ (qi, Ss.zero) :: L.drop j).length c9) M9.box
          simpa using this
        have N9 := (b9.block w.heap.size (by exact hlt5)).trans (show wd.drew.heap[w.heap.size]? = _ from HN5.out)
        have hwm : w.heap.size ≠ mp := by have := HM.out.ltm; omega
        have c1' : (w9.setCell ⟨mp, 0, none⟩ (.slice (some ⟨g9, 0, none⟩) (L.length + 1) c9)).cell? ⟨w.heap.size, 1, none⟩ = some (.int .i64 qi) := by
          have h5 : (w9.setCell ⟨mp, 0, none⟩ (.slice (some ⟨g9, 0, none⟩) (L.length + 1) c9)).heap[w.heap.size]? = _ := (Below.heap_setCell w9 ⟨mp, 0, none⟩ _ w.heap.size hwm).trans N9
          simp [World.cell?, h5]
        have bx : Below m w (w9.setCell ⟨mp, 0, none⟩ (.slice (some ⟨g9, 0, none⟩) (L.length + 1) c9)) := (b9'.mono hm0).setCell (p := ⟨mp, 0, none⟩) H2.out.above.2.2.1 _
        have ox : Onl w (w9.setCell ⟨mp, 0, none⟩ (.slice (some ⟨g9, 0, none⟩) (L.length + 1) c9)) mb mp a := (Onl.below b9').box _
        have hmbs : mb < wd.heap.size := Nat.lt_of_lt_of_le H2.out.table.map.lt HB5.out.size
        have htbs : tb < wd.heap.size := Nat.lt_of_lt_of_le H2.out.table.lt HB5.out.size
        have hwds : m ≤ wd.heap.size := Nat.le_trans hm0 HB5.out.size
        obtain ⟨wx, hwx⟩ : ∃ wx, wx = w9.setCell ⟨mp, 0, none⟩ (.slice (some ⟨g9, 0, none⟩) (L.length + 1) c9) := ⟨_, rfl⟩
        rw [← hwx] at TB9 MO9 c1' bx ox ⊢
        have HMO := Lib.hid MO9
        have HRI := Lib.hid (HIN.out j HLO.out HHI.out)
        clear hwx hrow M9 b9 b9' N9 MO9 hx14
        go_wp2_with fail
        refine (HOP.out _ TB9).mono ?_
        rintro e w10 ⟨rfl, L10⟩
        have M10 := HMO.out.left L10.2 H2.out.ne.2.1 (fun g' h => by injection h with h; injection h with h _ _; omega)
        have b10 := bx.trans (left10_below L10 H2.out.above.2.1 (Nat.le_trans hm0 bx.size))
        go_wp2_with fail
        go_ret
        refine ⟨rfl, b10, ox.left bx.size L10.2, c9, _, _, _, ⟨by rw [hlen]; exact L10.1, M10, HRI.out, by rw [hlen]; omega, fun x s hx => ?_, ⟨H2.out.ne.1, H2.out.ne.2.1, fun g' h => ?_⟩, H2.out.above.1, H2.out.above.2.1, H2.out.above.2.2.1, ?_, fun g' h => ?_⟩⟩
        · by_cases e : x = qi
          · rw [e, updS_same] at hx; injection hx with hx; rw [← hx]; exact ⟨⟨by unfold InR Ss.zero; simp, by unfold Ss.zero; decide, .inl rfl⟩, by rw [e]; exact HOQ.out⟩
          · rw [updS_other e] at hx; exact H2.out.small x s hx
        · injection h with h; injection h with h _ _; omega
        · exact Nat.le_trans hm0 b10.size
        · injection h with h; injection h with h _ _; omega
end Go.Proofs.Ytckengglamkaaaa
