/- The law's do: Seen, Close, Keep of both. No conditions beyond those in each statement. -/
import Derived.Test.YtckengglamkaaaaSessMod
import Derived.Deep.DeepCutAuto
namespace Go.Proofs.Ytckengglamkaaaa
open Go.RowKit Go.Maps Go.Sort
set_option linter.unusedVariables false
set_option maxRecDepth 100000

theorem und_mes : Try.prog.underlying 28 = some (.slice 48) := by kernel_rfl
theorem info_me : (Try.prog.info? 48).map (fun i => (i.zero, i.size, i.bytes)) = some (some (.agg #[.int .i64 0, .int .i64 0, .string ⟨#[]⟩]), 3, 32) := by kernel_rfl
theorem run_mdf (W : World) (b : Nat) : (Instr.fieldAt 30 (.pointer (some ⟨b, 0, none⟩)) 0).run Try.prog W = .ok (.pointer (some ⟨b, 0, none⟩)) W := by go_simp
theorem run_loadMs (W : World) (p : Addr) (a : Option Addr) (n c : Nat) (h : W.cell? p = some (.slice a n c)) : (Instr.loadAt 28 (.pointer (some p))).run Try.prog W = .ok (.slice a n c) W := by go_simp
theorem run_loadI (W : World) (p : Addr) (z : Int) (h : W.cell? p = some (.int .i64 z)) : (Instr.loadAt 3 (.pointer (some p))).run Try.prog W = .ok (.int .i64 z) W := by go_simp
theorem run_loadT (W : World) (p : Addr) (z : ByteArray) (h : W.cell? p = some (.string z)) : (Instr.loadAt 9 (.pointer (some p))).run Try.prog W = .ok (.string z) W := by go_simp
theorem run_idxE (W : World) (g n c i : Nat) (h : i < n) (hn : n ≤ c ∧ n ≤ 1000) : (Instr.indexAt 28 (.slice (some ⟨g, 0, none⟩) n c) (.int .i64 (i : Int))).run Try.prog W = .ok (.pointer (some ⟨g, i * 3, none⟩)) W := by
  have h1 : (i : Int) < (n : Int) := by omega
  have h0 : (0 : Int) ≤ (i : Int) := by omega
  go_simp
theorem run_fE1 (W : World) (g k : Nat) : (Instr.fieldAt 48 (.pointer (some ⟨g, k, none⟩)) 1).run Try.prog W = .ok (.pointer (some ⟨g, k + 1, none⟩)) W := by go_simp
theorem run_fE2 (W : World) (g k : Nat) : (Instr.fieldAt 48 (.pointer (some ⟨g, k, none⟩)) 2).run Try.prog W = .ok (.pointer (some ⟨g, k + 2, none⟩)) W := by go_simp
theorem run_fA1 (W : World) (g : Nat) : (Instr.fieldAt 32 (.pointer (some ⟨g, 0, none⟩)) 1).run Try.prog W = .ok (.pointer (some ⟨g, 1, none⟩)) W := by go_simp
theorem run_fA2 (W : World) (g : Nat) : (Instr.fieldAt 32 (.pointer (some ⟨g, 0, none⟩)) 2).run Try.prog W = .ok (.pointer (some ⟨g, 2, none⟩)) W := by go_simp
theorem run_fA3 (W : World) (g : Nat) : (Instr.fieldAt 32 (.pointer (some ⟨g, 0, none⟩)) 3).run Try.prog W = .ok (.pointer (some ⟨g, 3, none⟩)) W := by go_simp
theorem run_addI (W : World) (x y z : Int) (h : IntKind.i64.wrap (x + y) = z) (s1 s2 : Operand) : (do eqGuard .add 3 s1 s2 (.int .i64 x) (.int .i64 y); binOp .add 3 (.int .i64 x) (.int .i64 y) : Sem Value).run Try.prog W = .ok (.int .i64 z) W := by go_simp
theorem run_storeI (W : World) (p : Addr) (u : Value) (z : Int) (h : W.cell? p = some u) (hf : W.frozen? p = false) : (Instr.storeAt 3 (.pointer (some p)) (.int .i64 z)).run Try.prog W = .ok () (W.setCell p (.int .i64 z)) := by go_simp
theorem run_storeT (W : World) (p : Addr) (u : Value) (z : ByteArray) (h : W.cell? p = some u) (hf : W.frozen? p = false) : (Instr.storeAt 9 (.pointer (some p)) (.string z)).run Try.prog W = .ok () (W.setCell p (.string z)) := by go_simp
theorem run_storeMs (W : World) (p : Addr) (a : Option Addr) (n c : Nat) (u : Value) (h : W.cell? p = some u) (hf : W.frozen? p = false) : (Instr.storeAt 28 (.pointer (some p)) (.slice a n c)).run Try.prog W = .ok () (W.setCell p (.slice a n c)) := by go_simp
theorem run_rowE (W : World) : (Instr.buildSlice 28 0 #[]).run Try.prog W = .ok (.slice (some ⟨W.heap.size, 0, none⟩) 0 0) (W.alloc (.cells #[] 48)) := by go_simp
theorem run_cutE (W : World) (g n c q : Nat) (h : q ≤ n) (hn : n ≤ c ∧ n ≤ 1000) : (Instr.sliceAt 28 (.slice (some ⟨g, 0, none⟩) n c) none (some (.int .i64 (q : Int))) none).run Try.prog W = .ok (.slice (some ⟨g, 0, none⟩) q c) W := by
  have h1 : (q : Int) ≤ (c : Int) := by omega
  have h0 : (0 : Int) ≤ (q : Int) := by omega
  go_simp
theorem run_tailE (W : World) (g n c q : Nat) (h : q ≤ n) (hn : n ≤ c ∧ n ≤ 1000) : ∃ ad c2, (∀ W : World, (Instr.sliceAt 28 (.slice (some ⟨g, 0, none⟩) n c) (some (.int .i64 (q : Int))) none none).run Try.prog W = .ok (.slice (some ad) (n - q) c2) W) ∧ (ad = ⟨g, q * 3, none⟩ ∨ n - q = 0) := by
  have h1 : (q : Int) ≤ (n : Int) := by omega
  have h0 : (0 : Int) ≤ (q : Int) := by omega
  by_cases hc : q = c
  · refine ⟨⟨g, 0, none⟩, 0, fun W => ?_, .inr (by omega)⟩
    have hnq : n = q := by omega
    subst hnq hc
    go_simp
  · have hc2 : ¬ c = q := fun e => hc e.symm
    have h3 : q < c := by omega
    refine ⟨⟨g, q * 3, none⟩, c - q, fun W => ?_, .inl rfl⟩
    go_simp
def FDl (mp g n cap q : Nat) (ad : Addr) (c2 : Nat) : Nat → Value → Prop
  | 0, v => v = .pointer (some ⟨mp, 0, none⟩)
  | 1, _ => True
  | 2, v => v = .pointer (some ⟨mp, 0, none⟩)
  | 3, v => v = .pointer (some ⟨mp, 0, none⟩)
  | 4, v => v = .pointer (some ⟨mp, 0, none⟩)
  | 5, v => v = .slice (some ⟨g, 0, none⟩) n cap
  | 6, v => v = .int .i64 (q : Int)
  | 7, v => v = .slice (some ⟨g, 0, none⟩) q cap
  | 8, _ => True
  | 9, v => v = .pointer (some ⟨mp, 0, none⟩)
  | 10, v => v = .pointer (some ⟨mp, 0, none⟩)
  | 11, v => v = .pointer (some ⟨mp, 0, none⟩)
  | 12, v => v = .slice (some ⟨g, 0, none⟩) n cap
  | 13, v => v = .int .i64 (q : Int)
  | 14, v => v = .int .i64 ((q : Int) + 1)
  | 15, v => v = .slice (some ad) (n - (q + 1)) c2
  | 16, _ => True
  | 17, v => v = .pointer (some ⟨mp, 0, none⟩)
  | 18, v => v = .pointer (some ⟨mp, 0, none⟩)
  | _, _ => True
/-- What stands behind the appends. -/
def JDl (w0 : World) (L : List Me) (q : Nat) (b : Nat → Bool) (x : Nat → Value) (w : World) : Prop :=
  Below w0.heap.size w0 w ∧ (b 16 = true → b 8 = true) ∧ (b 8 = true → b 1 = true) ∧
  (if b 16 then w.ownsRow w0.heap.size 48 3 (x 16) (L.length - 1) (meCells (L.take q ++ L.drop (q + 1)))
   else if b 8 then w.ownsRow w0.heap.size 48 3 (x 8) q (meCells (L.take q))
   else if b 1 then w.ownsRow w0.heap.size 48 3 (x 1) 0 [] else True)
section
variable {w0 w w' : World} {L : List Me} {q : Nat} {b : Nat → Bool} {x : Nat → Value}
theorem JDl.pure {i : Nat} {v : Value} (h : JDl w0 L q b x w) (hi : ¬ 1 = i ∧ ¬ 8 = i ∧ ¬ 16 = i) : JDl w0 L q (setB b i) (setX x i v) w := by
  obtain ⟨h1, h2, h3⟩ := hi
  unfold JDl at h ⊢
  rw [setB_ne h1, setB_ne h2, setB_ne h3, setX_ne h1, setX_ne h2, setX_ne h3]
  exact h
theorem JDl.one (h : JDl w0 L q b x w) (hb : b 1 = false) : JDl w0 L q (setB b 1) (setX x 1 (.slice (some ⟨w.heap.size, 0, none⟩) 0 0)) (w.alloc (.cells #[] 48)) := by
  obtain ⟨h1, h2, h3, _⟩ := h
  have h8 : b 8 = false := by cases e : b 8; rfl; have := h3 e; rw [hb] at this; cases this
  have h16 : b 16 = false := by cases e : b 16; rfl; have := h2 e; rw [h8] at this; cases this
  unfold JDl
  rw [setB_same, setB_ne (by decide), setB_ne (by decide), setX_same, h8, h16]
  exact ⟨h1.alloc h1.size _, by simp, by simp, World.ownsRow_made (base := w0.heap.size) (e := 48) (size := 3) w #[] 0 h1.size (Nat.zero_le _) rfl⟩
theorem JDl.at1 (h : JDl w0 L q b x w) (hb : b 1 = true) (h8 : b 8 = false) : w.ownsRow w0.heap.size 48 3 (x 1) 0 [] := by
  obtain ⟨_, h2, _, h4⟩ := h
  have h16 : b 16 = false := by cases e : b 16; rfl; have := h2 e; rw [h8] at this; cases this
  rw [h16, h8, hb] at h4
  exact h4
theorem row_base {v : Value} {n m : Nat} {xs : List Value} (h : w.ownsRow m 48 3 v n xs) (j : Nat) (e : v.ownBlock = some j) : m ≤ j := (h.lt j e).1
theorem JDl.two {v : Value} (h : JDl w0 L q b x w) (hb : b 1 = true) (h8 : b 8 = false) (hown : w.ownsRow w0.heap.size 48 3 (x 1) 0 []) (ho : w'.ownsRow w0.heap.size 48 3 v (0 + q) ([] ++ meCells (L.take q))) (hg : w.grownBy w' (x 1).ownBlock) :
    JDl w0 L q (setB b 8) (setX x 8 v) w' := by
  obtain ⟨h1, h2, h3, _⟩ := h
  have h16 : b 16 = false := by cases e : b 16; rfl; have := h2 e; rw [h8] at this; cases this
  unfold JDl
  rw [setB_same, setB_ne (by decide), setB_ne (by decide), setX_same, hb, h16]
  rw [Nat.zero_add, List.nil_append] at ho
  exact ⟨h1.grown hg h1.size (fun j hj => row_base hown j hj), by simp, by simp, ho⟩
theorem JDl.at8 (h : JDl w0 L q b x w) (hb : b 8 = true) (h16 : b 16 = false) : w.ownsRow w0.heap.size 48 3 (x 8) q (meCells (L.take q)) := by
  obtain ⟨_, _, _, h4⟩ := h
  rw [h16, hb] at h4
  exact h4
theorem JDl.three {v : Value} (h : JDl w0 L q b x w) (hb : b 8 = true) (h16 : b 16 = false) (hown : w.ownsRow w0.heap.size 48 3 (x 8) q (meCells (L.take q))) (ho : w'.ownsRow w0.heap.size 48 3 v (L.length - 1) (meCells (L.take q) ++ meCells (L.drop (q + 1)))) (hg : w.grownBy w' (x 8).ownBlock) :
    JDl w0 L q (setB b 16) (setX x 16 v) w' := by
  obtain ⟨h1, h2, h3, _⟩ := h
  unfold JDl
  rw [setB_same, setB_ne (by decide), setB_ne (by decide), setX_same, hb]
  exact ⟨h1.grown hg h1.size (fun j hj => row_base hown j hj), by simp, fun _ => h3 hb, by rw [meCells_append]; exact ho⟩
theorem JDl.at16 (h : JDl w0 L q b x w) (h16 : b 16 = true) : w.ownsRow w0.heap.size 48 3 (x 16) (L.length - 1) (meCells (L.take q ++ L.drop (q + 1))) := by
  obtain ⟨_, _, _, h4⟩ := h
  rw [h16] at h4
  exact h4
end
theorem ownsRow_less {w : World} {base base' : Nat} {e : TypeId} {size : Nat} {v : Value} {n : Nat} {xs : List Value} (h : w.ownsRow base e size v n xs) (hb : base' ≤ base) : w.ownsRow base' e size v n xs :=
  ⟨h.1, h.2.imp id (fun ⟨g, cap, cur, h1, h2, h3⟩ => ⟨g, cap, cur, h1, Nat.le_trans hb h2, h3⟩)⟩
theorem RepS.at {T : Int → Option Ss} {L : List Me} (h : RepS T L) {i j : Nat} {a b : Me} (hi : L[i]? = some a) (hj : L[j]? = some b) (e : a.1 = b.1) : i = j := by
  refine (List.getElem?_inj (l := L.map (·.1)) (by rw [List.length_map]; exact (List.getElem?_eq_some_iff.1 hi).1) h.nodup).1 ?_
  rw [List.getElem?_map, List.getElem?_map, hi, hj]; simp [e]
theorem RepS.del {T : Int → Option Ss} {L : List Me} (h : RepS T L) {q : Nat} {s : Int} {n : Ss} (hq : L[q]? = some (s, n)) : RepS (updS T s none) (L.take q ++ L.drop (q + 1)) := by
  obtain ⟨hlt, he⟩ := List.getElem?_eq_some_iff.1 hq
  have hL : L.take q ++ (s, n) :: L.drop (q + 1) = L := by rw [← he, ← List.drop_eq_getElem_cons hlt, List.take_append_drop]
  have hp : ((s, n) :: (L.take q ++ L.drop (q + 1))).Perm L := by
    have h1 := List.perm_middle (a := (s, n)) (l₁ := L.take q) (l₂ := L.drop (q + 1))
    rw [hL] at h1; exact h1.symm
  have hn := ((hp.map (·.1)).nodup_iff).2 h.nodup
  rw [List.map_cons, List.nodup_cons] at hn
  refine ⟨?_, fun x m => ?_⟩
  · have h1 := h.asc
    rw [← hL, List.map_append, List.map_cons, List.pairwise_append] at h1
    obtain ⟨h2, h3, h4⟩ := h1
    rw [List.map_append, List.pairwise_append]
    exact ⟨h2, (List.pairwise_cons.1 h3).2, fun a ha b hb => h4 a ha b (List.mem_cons_of_mem _ hb)⟩
  · have hm : (x, m) ∈ L ↔ (x, m) = (s, n) ∨ (x, m) ∈ L.take q ++ L.drop (q + 1) := by rw [← hp.mem_iff, List.mem_cons]
    by_cases hx : x = s
    · subst hx
      rw [updS_same]
      constructor
      · intro e; cases e
      · intro hm2; exact absurd (List.mem_map_of_mem (f := (·.1)) hm2) hn.1
    · rw [updS_other hx, h.mem x m, hm]
      constructor
      · rintro (e | e)
        · injection e with e _; exact absurd e hx
        · exact e
      · exact .inr
theorem RepS.set {T : Int → Option Ss} {L : List Me} (h : RepS T L) {i : Nat} {s : Int} {n : Ss} (hi : L[i]? = some (s, n)) (n' : Ss) : RepS (updS T s (some n')) (L.set i (s, n')) := by
  have hil := (List.getElem?_eq_some_iff.1 hi).1
  have hset : ∀ j, (L.set i (s, n'))[j]? = if i = j then some (s, n') else L[j]? := fun j => by
    by_cases e : i = j
    · subst e; rw [List.getElem?_set_self hil, if_pos rfl]
    · rw [List.getElem?_set_ne e, if_neg e]
  refine ⟨?_, fun x m => ?_⟩
  · have e : (L.set i (s, n')).map (·.1) = L.map (·.1) := by
      rw [List.map_set]
      refine List.ext_getElem? fun j => ?_
      by_cases e : i = j
      · subst e; rw [List.getElem?_set_self (by simpa using hil), List.getElem?_map, hi]; rfl
      · rw [List.getElem?_set_ne e]
    rw [e]; exact h.asc
  · by_cases hx : x = s
    · subst hx
      rw [updS_same]
      constructor
      · intro e
        injection e with e
        rw [← e]
        exact List.mem_of_getElem? (i := i) (by rw [hset, if_pos rfl])
      · intro hm
        obtain ⟨j, hj⟩ := List.getElem?_of_mem hm
        rw [hset] at hj
        by_cases e : i = j
        · rw [if_pos e] at hj; injection hj with hj; injection hj with _ hj; rw [hj]
        · rw [if_neg e] at hj; exact absurd (h.at hi hj rfl) e
    · rw [updS_other hx, h.mem x m]
      constructor
      · intro hm
        obtain ⟨j, hj⟩ := List.getElem?_of_mem hm
        have e : i ≠ j := by rintro rfl; rw [hi] at hj; injection hj with hj; injection hj with hj _; exact hx hj.symm
        exact List.mem_of_getElem? (i := j) (by rw [hset, if_neg e]; exact hj)
      · intro hm
        obtain ⟨j, hj⟩ := List.getElem?_of_mem hm
        rw [hset] at hj
        by_cases e : i = j
        · rw [if_pos e] at hj; injection hj with hj; injection hj with hj _; exact absurd hj.symm hx
        · rw [if_neg e] at hj; exact List.mem_of_getElem? hj
def SmS (s : Ss) : Prop := InR s.req ∧ s.ans.size ≤ 400 ∧ (s = Ss.zero ∨ okN s.req = true)
theorem seen_okN {T : Int → Option Ss} {id req : Int} (h : (seenS T id req).2.2 = 0) : okN req = true := by
  unfold seenS at h
  cases hT : T id with
  | none => rw [hT] at h; simp at h
  | some s => rw [hT] at h; cases ho : okN req; · simp [ho] at h
              · rfl
/-- A table and its model beside each other, from block m on. -/
structure TwoS (m : Nat) (w : World) (tb mb k mp cap : Nat) (a : Option Addr) (T : Int → Option Ss) (L : List Me) : Prop where
  table : TbW w tb mb k L.length T
  mod : MoW w mp a cap L
  rep : RepS T L
  few : L.length ≤ 16
  small : ∀ x s, T x = some s → SmS s ∧ okN x = true
  ne : tb ≠ mp ∧ mb ≠ mp ∧ ∀ g, a = some ⟨g, 0, none⟩ → tb ≠ g ∧ mb ≠ g
  above : m ≤ tb ∧ m ≤ mb ∧ m ≤ mp ∧ m ≤ w.heap.size ∧ ∀ g, a = some ⟨g, 0, none⟩ → m ≤ g
theorem TwoS.below {m tb mb k mp cap : Nat} {a : Option Addr} {T : Int → Option Ss} {L : List Me} {w w' : World} (h : TwoS m w tb mb k mp cap a T L) (hb : Below w.heap.size w w') : TwoS m w' tb mb k mp cap a T L :=
  ⟨h.table.below hb, h.mod.below hb, h.rep, h.few, h.small, h.ne, h.above.1, h.above.2.1, h.above.2.2.1, Nat.le_trans h.above.2.2.2.1 hb.size, h.above.2.2.2.2⟩
theorem TwoS.mono {m tb mb k k' mp cap : Nat} {a : Option Addr} {T : Int → Option Ss} {L : List Me} {w : World} (h : TwoS m w tb mb k mp cap a T L) (hk : k ≤ k') : TwoS m w tb mb k' mp cap a T L :=
  ⟨h.table.mono hk, h.mod, h.rep, h.few, h.small, h.ne, h.above⟩
theorem MoW.left {w w' : World} {mp cap mb : Nat} {a : Option Addr} {L : List Me} (h : MoW w mp a cap L) (hg : w.grownBy w' (some mb)) (h1 : mb ≠ mp) (h2 : ∀ g, a = some ⟨g, 0, none⟩ → mb ≠ g) : MoW w' mp a cap L :=
  h.same (hg.block mp h.ltm (fun e => h1 (Option.some.inj e).symm)) (fun g hga => hg.block g (h.ltg hga) (fun e => h2 g hga (Option.some.inj e).symm))
theorem seen_two {T : Int → Option Ss} {id req : Int} : (((seenS T id req).1.toList == (seenS T id req).1.toList) = true) ∧ (((seenS T id req).2.1 == (seenS T id req).2.1) = true) ∧ (((seenS T id req).2.2 == (seenS T id req).2.2) = true) := ⟨by simp, by simp, by simp⟩
def actV (a : Sa) : Value := .agg #[.int .i64 a.k, .int .i64 a.id, .int .i64 a.req, .string a.ans]
/-- What an act leaves. -/
def Onl (w w' : World) (mb mp : Nat) (a : Option Addr) : Prop := ∀ p, p < w.heap.size → p ≠ mb → p ≠ mp → (∀ g, a = some ⟨g, 0, none⟩ → p ≠ g) → w'.heap[p]? = w.heap[p]?
theorem Onl.below {w w' : World} {mb mp : Nat} {a : Option Addr} (h : Below w.heap.size w w') : Onl w w' mb mp a := fun p hp _ _ _ => h.block p hp
theorem Onl.left {w w' w'' : World} {mb mp : Nat} {a : Option Addr} (h : Onl w w' mb mp a) (hs : w.heap.size ≤ w'.heap.size) (hg : w'.grownBy w'' (some mb)) : Onl w w'' mb mp a :=
  fun p hp h1 h2 h3 => (hg.block p (by omega) (fun e => h1 (Option.some.inj e))).trans (h p hp h1 h2 h3)
theorem Onl.next {w w' w'' : World} {mb mp : Nat} {a : Option Addr} (h : Onl w w' mb mp a) (hs : w.heap.size ≤ w'.heap.size) (hb : Below w'.heap.size w' w'') : Onl w w'' mb mp a :=
  fun p hp h1 h2 h3 => (hb.block p (by omega)).trans (h p hp h1 h2 h3)
theorem Onl.box {w w' : World} {mb mp : Nat} {a : Option Addr} (h : Onl w w' mb mp a) (u : Value) : Onl w (w'.setCell ⟨mp, 0, none⟩ u) mb mp a :=
  fun p hp h1 h2 h3 => (Below.heap_setCell w' ⟨mp, 0, none⟩ u p h2).trans (h p hp h1 h2 h3)
theorem Onl.row {w w' : World} {mb mp g : Nat} (h : Onl w w' mb mp (some ⟨g, 0, none⟩)) (i : Nat) (u : Value) : Onl w (w'.setCell ⟨g, i, none⟩ u) mb mp (some ⟨g, 0, none⟩) :=
  fun p hp h1 h2 h3 => (Below.heap_setCell w' ⟨g, i, none⟩ u p (h3 g rfl)).trans (h p hp h1 h2 h3)
def DoR (m : Nat) (w w' : World) (tb mb k mp : Nat) (a : Option Addr) : Prop := Below m w w' ∧ Onl w w' mb mp a ∧ ∃ cap a T L, TwoS m w' tb mb (k + 1) mp cap a T L
set_option maxHeartbeats 4000000 in
theorem sdo_seen (m tb mb k mp cap : Nat) (a : Option Addr) (T : Int → Option Ss) (L : List Me) (q : Sa) (w : World) (h2 : TwoS m w tb mb k mp cap a T L) (hid : InR q.id) (hq : wrap64 ((IntKind.u64.wrap q.k).tmod 5) = 4) :
    Calls Try.prog 12 #[.pointer (some ⟨mp, 0, none⟩), .pointer (some ⟨tb, 0, none⟩), actV q] w fun e w' => e = .returned (.bool true) ∧ DoR m w w' tb mb k mp a := by
  have H2 := Lib.hid h2
  obtain ⟨qk, qi, qr, qa⟩ := q
  simp only at hid hq
  have b1 := (Below.refl w.heap.size w).alloc (Nat.le_refl _) (.cells #[.int .i64 qk, .int .i64 qi, .int .i64 qr, .string qa] 32)
  have N1 := heap_alloc_new w (.cells #[.int .i64 qk, .int .i64 qi, .int .i64 qr, .string qa] 32)
  have hl1000 : L.length ≤ 1000 := by have := h2.few; omega
  have HA := Lib.hid (fun (W : World) (hW : Below w.heap.size w W) => at_any mp cap a L qi W (h2.mod.below hW) hl1000)
  have HST := Lib.hid (fun (W : World) (hW : Below w.heap.size w W) => seen_any tb mb k L.length T qi qr W (h2.table.below hW) hid)
  have HSM := Lib.hid (fun (W : World) (hW : Below w.heap.size w W) => mseen_any mp cap a L T qi qr W (h2.mod.below hW) h2.rep hl1000)
  obtain ⟨ai, hai⟩ : ∃ ai, ai = atI L qi L.length := ⟨_, rfl⟩
  rw [← hai] at HA
  obtain ⟨s1, hs1⟩ : ∃ s1, s1 = (seenS T qi qr).1 := ⟨_, rfl⟩
  obtain ⟨s2, hs2⟩ : ∃ s2, s2 = (seenS T qi qr).2.1 := ⟨_, rfl⟩
  obtain ⟨s3, hs3⟩ : ∃ s3, s3 = (seenS T qi qr).2.2 := ⟨_, rfl⟩
  rw [← hs1, ← hs2, ← hs3] at HST HSM
  have e1 : (s1.toList == s1.toList) = true := by simp
  have e2 : (s2 == s2) = true := by simp
  have e3 : (s3 == s3) = true := by simp
  have hm0 := h2.above.2.2.2.1
  clear hai hs1 hs2 hs3 h2
  unfold actV
  go_enter Try.func12, Try.ntmps12
  go_upto_region 1 with fail
  obtain ⟨w1, hw1⟩ : ∃ w1, w1 = w.alloc (.cells #[.int .i64 qk, .int .i64 qi, .int .i64 qr, .string qa] 32) := ⟨_, rfl⟩
  rw [← hw1] at b1 N1 ⊢
  have hlt : w.heap.size < w1.heap.size := (Array.getElem?_eq_some_iff.1 N1).1
  have c1 : w1.cell? ⟨w.heap.size, 1, none⟩ = some (.int .i64 qi) := by simp [World.cell?, N1]
  clear hw1
  go_wp2_with fail
  refine (HA.out _ b1).mono ?_
  rintro e w2 ⟨rfl, b2⟩
  have N2 := (b2.block w.heap.size hlt).trans N1
  replace b2 := b1.trans (b2.mono b1.size)
  clear N1 b1 c1 hlt
  have c0 : w2.cell? ⟨w.heap.size, 0, none⟩ = some (.int .i64 qk) := by simp [World.cell?, N2]
  have c1 : w2.cell? ⟨w.heap.size, 1, none⟩ = some (.int .i64 qi) := by simp [World.cell?, N2]
  have c2 : w2.cell? ⟨w.heap.size, 2, none⟩ = some (.int .i64 qr) := by simp [World.cell?, N2]
  have hlt2 : w.heap.size < w2.heap.size := (Array.getElem?_eq_some_iff.1 N2).1
  have HN2 := Lib.hid N2
  clear N2
  go_wp2_with fail
  refine (HST.out _ b2).mono ?_
  rintro e w3 ⟨rfl, b3⟩
  have N3 := (b3.block w.heap.size hlt2).trans HN2.out
  replace b3 := b2.trans (b3.mono b2.size)
  have d1 : w3.cell? ⟨w.heap.size, 1, none⟩ = some (.int .i64 qi) := by simp [World.cell?, N3]
  have d2 : w3.cell? ⟨w.heap.size, 2, none⟩ = some (.int .i64 qr) := by simp [World.cell?, N3]
  clear N3 b2 c0 c1 c2 hlt2 HN2
  go_wp2_with fail
  refine (HSM.out _ b3).mono ?_
  rintro e w4 ⟨rfl, b4⟩
  replace b4 := b3.trans (b4.mono b3.size)
  go_wp2_with fail
  go_ret
  exact ⟨by simp, b4.mono hm0, .below b4, cap, a, T, L, (H2.out.below b4).mono (Nat.le_succ _)⟩
end Go.Proofs.Ytckengglamkaaaa
