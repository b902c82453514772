/- slices.Insert of one watch. No conditions beyond those in each statement. -/
import Derived.Test.YtbbdokfankgllaaGreatDoorWBs
import Derived.Test.YtbbdokfankgllaaGreatDoorInvAll
import Derived.Shelf.Spec.SlicesInsert
import Derived.Lib.AppendZerosOnto
import Derived.Lib.Overlaps
import Derived.Laws.CopyRow
import Derived.Laws.CopyOwn
import Derived.Maps.AppendAt
namespace Go.Proofs.YtbbdokfankgllaaGreatDoor
open Go.RowKit
set_option linter.unusedVariables false
set_option maxRecDepth 100000

theorem und_was : Tryz.prog.underlying 28 = some (.slice 49) := by kernel_rfl
theorem info_wa : (Tryz.prog.info? 49).map (fun i => (i.zero, i.size, i.bytes)) = some (some (.agg #[.int .i64 0, .string ⟨#[]⟩, .bool false, .bool false]), 4, 32) := by kernel_rfl
theorem und_i : Tryz.prog.underlying 3 = some (.int .i64) := by kernel_rfl
/-- A row of watches of one's own. -/
def WRow (w : World) (base : Nat) (v : Value) (L : List Wa) : Prop := w.ownsRow base 49 4 v L.length (cellsK waOne L)
/-- copy between rows of elements of k cells, as an equation. -/
theorem copyK {P : Program} (w : World) (dT sT ty elem : TypeId) (k g o dLen dCap : Nat) (a : Addr) (sLen sCap : Nat) (cur : Array Value) (t : TypeId) (cs : List Value)
    (hu : P.underlying dT = some (.slice elem)) (hs : (P.info? elem).map (·.size) = some k)
    (hg : w.heap[g]? = some (.cells cur t (0, 0))) (hn : cs.length = Nat.min sLen dLen * k)
    (hsrc : ∀ j v, cs[j]? = some v → w.cell? (a.add j) = some v) (hfit : o + cs.length ≤ cur.size) (h1 : ∀ v ∈ cs, v.oneCell' = true) :
    (Builtin.copy_ #[dT, sT] ty #[.slice (some ⟨g, o, none⟩) dLen dCap, .slice (some a) sLen sCap]).run P w =
      .ok (goInt (Nat.min sLen dLen : Nat)) (w.setRow g (cur.toList.take o ++ cs ++ cur.toList.drop (o + cs.length)).toArray) := by
  have hl := run_loadCells_list (P := P) w a cs hsrc
  have hst := run_storeCells_at P g o t cs 0 cur w hg (by simpa using hfit) h1
  cases hq : P.info? elem with
  | none => simp [hq] at hs
  | some i =>
    have hi : i.size = k := by simpa [hq] using hs
    simp [Builtin.copy_, run_underlying hu, Builtin.lenOf, Builtin.firstCells, sizeOf, typeInfo, hq, hi, ← hn, hl, hst]
theorem ins_cells {L : List Wa} {i cap : Nat} {x : Wa} {cur : List Value} (hi : i < L.length) (hc : cur.take (L.length * 4) = cellsK waOne L) (hl : cur.length = cap * 4) (hcap : L.length + 1 ≤ cap) :
    let cur1 := cur.take ((i + 1) * 4) ++ cellsK waOne (L.drop i) ++ cur.drop ((i + 1) * 4 + (cellsK waOne (L.drop i)).length)
    (cur1.take (i * 4) ++ waOne x ++ cur1.drop (i * 4 + 4)).length = cap * 4 ∧ cur1.length = cap * 4 ∧
      (cur1.take (i * 4) ++ waOne x ++ cur1.drop (i * 4 + 4)).take ((L.length + 1) * 4) = cellsK waOne (L.take i ++ x :: L.drop i) := by
  have hld : (cellsK waOne (L.drop i)).length = (L.length - i) * 4 := by rw [cellsK_len waOne_len, List.length_drop]
  intro cur1
  have h1 : cur1.length = cap * 4 := by
    show (cur.take ((i + 1) * 4) ++ cellsK waOne (L.drop i) ++ cur.drop ((i + 1) * 4 + (cellsK waOne (L.drop i)).length)).length = _
    rw [List.length_append, List.length_append, List.length_take, List.length_drop, hld, hl]; omega
  have ht : cur1.take (i * 4) = cellsK waOne (L.take i) := by
    show (cur.take ((i + 1) * 4) ++ cellsK waOne (L.drop i) ++ cur.drop ((i + 1) * 4 + (cellsK waOne (L.drop i)).length)).take (i * 4) = _
    rw [List.append_assoc, List.take_append_of_le_length (by rw [List.length_take, hl]; omega), List.take_take, Nat.min_eq_left (by omega), ← cellsK_take waOne_len, ← hc, List.take_take, Nat.min_eq_left (by omega)]
  have hd : (cur1.drop (i * 4 + 4)).take ((L.length - i) * 4) = cellsK waOne (L.drop i) := by
    show ((cur.take ((i + 1) * 4) ++ cellsK waOne (L.drop i) ++ cur.drop ((i + 1) * 4 + (cellsK waOne (L.drop i)).length)).drop (i * 4 + 4)).take _ = _
    rw [List.append_assoc, List.drop_append_of_le_length (by rw [List.length_take, hl]; omega), List.drop_of_length_le (by rw [List.length_take, hl]; omega), List.nil_append, List.take_append_of_le_length (by omega), List.take_of_length_le (by omega)]
  refine ⟨?_, h1, ?_⟩
  · rw [List.length_append, List.length_append, List.length_take, List.length_drop, h1, waOne_len]; omega
  · rw [cellsK_append, cellsK_cons, ht, List.append_assoc]
    have hl1 : (cellsK waOne (L.take i)).length = i * 4 := by rw [cellsK_len waOne_len, List.length_take, Nat.min_eq_left (by omega)]
    rw [show (L.length + 1) * 4 = (cellsK waOne (L.take i)).length + ((waOne x).length + (L.length - i) * 4) by rw [hl1, waOne_len]; omega, List.take_length_add_append, List.take_length_add_append, hd]
/-- The row that comes back lies in the old one's block, or in a new one. -/
def OwnOr (w : World) (v v' : Value) : Prop := ∀ q, v'.ownBlock = some q → v.ownBlock = some q ∨ w.heap.size ≤ q
theorem OwnOr.same {w : World} {v v' : Value} (h : v'.ownBlock = v.ownBlock) : OwnOr w v v' := fun q hq => .inl (by rw [← h]; exact hq)
theorem OwnOr.at {w : World} {v v' : Value} (h : v'.ownBlock = v.ownBlock ∨ v'.ownBlock = some w.heap.size) : OwnOr w v v' := by
  rcases h with h | h
  · exact .same h
  · intro q hq
    rw [h] at hq
    exact .inr (Nat.le_of_eq (Option.some.inj hq))
theorem OwnOr.new {w w' : World} {v v' : Value} {e : TypeId} {sz n : Nat} {xs : List Value} (h : w'.ownsRow w.heap.size e sz v' n xs) : OwnOr w v v' := fun q hq => .inr (h.lt q hq).1
set_option maxHeartbeats 4000000 in
theorem ins_end (base : Nat) (v : Value) (L : List Wa) (x : Wa) (vb : Nat) (w : World) (h : WRow w base v L) (hx : WaB w vb x) (hb : base ≤ w.heap.size) (hL : L.length ≤ 1000) :
    Calls Tryz.prog 42 #[v, .int .i64 (L.length : Int), .slice (some ⟨vb, 0, none⟩) 1 1] w fun e w' => ∃ v', e = .returned v' ∧ WRow w' base v' (L ++ [x]) ∧ w.grownBy w' v.ownBlock ∧ OwnOr w v v' := by
  obtain ⟨i1, hi1, hz1, hz2, hz3⟩ := info_parts info_wa
  have hcx := hx.cells
  have hrow : w.ownsRow base 49 4 v L.length (cellsK waOne L) := h
  have hform : ∃ a c, v = .slice a L.length c := by
    rcases h.2 with ⟨h0, h1⟩ | ⟨g, c, cur, h1, _⟩
    · exact ⟨none, 0, by rw [h0, h1]⟩
    · exact ⟨_, _, h1⟩
  have hcap : ∀ a c, v = .slice a L.length c → L.length ≤ c := fun a c hv => by
    rcases h.2 with ⟨h0, h1⟩ | ⟨g, c', cur, h1, _, _, h2, _⟩
    · omega
    · rw [hv] at h1; injection h1 with _ _ h1; omega
  obtain ⟨a, c, rfl⟩ := hform
  have hlc := hcap a c rfl
  have HROW := Lib.hid hrow
  have HC : Hid (∀ j u, (waOne x)[j]? = some u → w.cell? ((⟨vb, 0, none⟩ : Addr).add j) = some u) := Lib.hid fun j u hu => by
    rw [show (⟨vb, 0, none⟩ : Addr).add j = ⟨vb, j, none⟩ by rw [Addr.add_lit, Nat.zero_add]]
    match j, hu with
    | 0, hu => simp [waOne] at hu; rw [← hu]; exact hcx.1
    | 1, hu => simp [waOne] at hu; rw [← hu]; exact hcx.2.1
    | 2, hu => simp [waOne] at hu; rw [← hu]; exact hcx.2.2.1
    | 3, hu => simp [waOne] at hu; rw [← hu]; exact hcx.2.2.2
    | n + 4, hu => simp [waOne] at hu
  clear h hrow hcap hcx
  go_enter Tryz.func42, Tryz.ntmps42
  go_wp2_with (at_builtin; refine wpList_append_own_at _ rfl _ _ _ rfl base 49 i1 _ 4 32 und_was hi1 hz1 hz2 hz3 rfl (by decide) (.slice a L.length c) L.length (cellsK waOne L) rfl HROW.out ⟨vb, 0, none⟩ 1 1 (waOne x) rfl rfl HC.out (waOne_one x) (by unfold maxLen; omega) (by omega) hb ?_; intro v8 w8 hown8 hgrow8 hiff8 hat8; go_frame)
  all_goals
    go_ret
    refine ⟨v8, rfl, ?_, by cases a <;> exact hgrow8, by cases a <;> exact OwnOr.at hat8⟩
    unfold WRow
    rw [cellsK_append, List.length_append]
    simpa [cellsK] using hown8
theorem find_over : Extern.find Tryz.f72 = some (Extern.SlicesOverlaps.overlaps #[28, 28] #[4]) := by kernel_rfl
theorem run_over (w : World) (va g o la lc lb cb : Nat) (x : Wa) (cur : Array Value) (hne : va ≠ g) (hx : WaB w va x) (hg : w.heap[g]? = some (.cells cur 49 (0, 0))) (hc : 0 < cur.size) :
    (callFunc 72 #[.slice (some ⟨va, 0, none⟩) la lc, .slice (some ⟨g, o, none⟩) lb cb]).run Tryz.prog w = .ok (.value (.bool false)) w := by
  have hsa : w.shape? va = some (49, 4) := by unfold World.shape?; rw [hx]; rfl
  have hsb : w.shape? g = some (49, cur.size) := by unfold World.shape?; rw [hg]
  have hfa : ∀ k, w.frozen? ⟨va, k, none⟩ = false := fun k => by unfold WaB at hx; simp [World.frozen?, hx]
  rw [run_callFunc_extern Tryz.func72 (by kernel_rfl) (by kernel_rfl) (by kernel_rfl) find_over,
    Lib.run_overlaps_apart w 28 4 49 und_was 4 (fun w => by kernel_rfl) ⟨va, 0, none⟩ ⟨g, o, none⟩ la lc lb cb hne _ _ 4 cur.size hsa hsb (by omega) (hfa 0) (hfa 4)]
  rfl
set_option maxHeartbeats 8000000 in
theorem ins_room (g cap i : Nat) (L : List Wa) (x : Wa) (vb : Nat) (w : World) (cur : Array Value) (hg : w.heap[g]? = some (.cells cur 49 (0, 0))) (hcs : cur.size = cap * 4) (htk : cur.toList.take (L.length * 4) = cellsK waOne L)
    (hi : i < L.length) (hroom : L.length + 1 ≤ cap) (hcm : cap ≤ maxLen) (hx : WaB w vb x) (hvb : vb ≠ g) (hL : L.length ≤ 1000) :
    Calls Tryz.prog 42 #[.slice (some ⟨g, 0, none⟩) L.length cap, .int .i64 (i : Int), .slice (some ⟨vb, 0, none⟩) 1 1] w fun e w' =>
      e = .returned (.slice (some ⟨g, 0, none⟩) (L.length + 1) cap) ∧ ∃ cur', w'.heap[g]? = some (.cells cur' 49 (0, 0)) ∧ cur'.size = cap * 4 ∧ cur'.toList.take ((L.length + 1) * 4) = cellsK waOne (L.take i ++ x :: L.drop i) ∧ w.grownBy w' (some g) := by
  have hov : ∀ o lb cb, (callFunc 72 #[.slice (some ⟨vb, 0, none⟩) 1 1, .slice (some ⟨g, o, none⟩) lb cb]).run Tryz.prog w = .ok (.value (.bool false)) w := fun o lb cb => run_over w vb g o 1 1 lb cb x cur hvb hx hg (by omega)
  unfold maxLen at hcm
  have hz2 : ¬ ((i : Int) = (L.length : Int)) := by omega
  have hb1 : (0 : Int) ≤ (i : Int) + 1 := by omega
  have hin : i ≤ L.length := by omega
  have htn : ((i : Int) + 1).toNat = i + 1 := by omega
  have hb2 : ¬ (cap = i + 1) := by omega
  have hb3 : (i : Int) ≤ (L.length : Int) + 1 := by omega
  have hb4 : ¬ (cap = i) := by omega
  have hw1 : IntKind.i64.wrap ((i : Int) + 1) = (i : Int) + 1 := IntWalk.i64_in _ (by omega)
  have hw2 : IntKind.i64.wrap ((L.length : Int) + 1) = (L.length : Int) + 1 := IntWalk.i64_in _ (by omega)
  have hb5 : ¬ ((cap : Int) < (L.length : Int) + 1) := by omega
  have hszK : (Tryz.prog.info? 49).map (·.size) = some 4 := by kernel_rfl
  have hcx := hx.cells
  have hgd : w.drew.heap[g]? = some (.cells cur 49 (0, 0)) := hg
  obtain ⟨m1, m2, m3⟩ := ins_cells (x := x) hi htk (by simpa using hcs) hroom
  obtain ⟨CS, hCS⟩ : ∃ CS, CS = cellsK waOne (L.drop i) := ⟨_, rfl⟩
  have hCl : CS.length = (L.length - i) * 4 := by rw [hCS, cellsK_len waOne_len, List.length_drop]
  rw [← hCS] at m1 m2 m3
  have hCc : ∀ j v, CS[j]? = some v → w.cell? ⟨g, i * 4 + j, none⟩ = some v := fun j v hj => by
    have hjl := (List.getElem?_eq_some_iff.1 hj).1
    rw [hCS, ← cellsK_drop waOne_len, List.getElem?_drop, ← htk, List.getElem?_take] at hj
    split at hj
    · simpa [World.cell?, hg] using hj
    · cases hj
  have hC1 : ∀ v ∈ CS, v.oneCell' = true := fun v hv => cellsK_one waOne_one _ v (by rw [← hCS]; exact hv)
  obtain ⟨C1, hC1d⟩ : ∃ C1 : Array Value, C1 = (cur.toList.take ((i + 1) * 4) ++ CS ++ cur.toList.drop ((i + 1) * 4 + CS.length)).toArray := ⟨_, rfl⟩
  have hcp1 : ∀ ty dc sc, (Builtin.copy_ #[28, 28] ty #[.slice (some ⟨g, (i + 1) * 4, none⟩) (L.length - i) dc, .slice (some ⟨g, i * 4, none⟩) (L.length + 1 - i) sc]).run Tryz.prog w.drew = .ok (goInt (Nat.min (L.length + 1 - i) (L.length - i) : Nat)) (w.drew.setRow g C1) := fun ty dc sc => by
    rw [hC1d]
    exact copyK w.drew _ _ ty 49 4 g ((i + 1) * 4) _ dc ⟨g, i * 4, none⟩ _ sc cur 49 CS und_was hszK hgd (by rw [hCl]; simp only [Nat.min_def]; split <;> omega)
      (fun j v hj => by rw [Addr.add_lit]; exact hCc j v hj) (by rw [hCl]; omega) hC1
  have hg1 : (w.drew.setRow g C1).heap[g]? = some (.cells C1 49 (0, 0)) := setRow_heap _ _ _ _ _ _ hgd
  have hc1s : C1.size = cap * 4 := by rw [hC1d]; simpa using m2
  obtain ⟨C2, hC2d⟩ : ∃ C2 : Array Value, C2 = (C1.toList.take (i * 4) ++ waOne x ++ C1.toList.drop (i * 4 + 4)).toArray := ⟨_, rfl⟩
  have hc2s : C2.size = cap * 4 := by rw [hC2d, hC1d]; simpa using m1
  have hc2t : C2.toList.take ((L.length + 1) * 4) = cellsK waOne (L.take i ++ x :: L.drop i) := by rw [hC2d, hC1d]; simpa using m3
  obtain ⟨W1, hW1⟩ : ∃ W1, W1 = w.drew.setRow g C1 := ⟨_, rfl⟩
  have hx1 : WaB W1 vb x := by rw [hW1]; exact (setRow_other _ _ _ _ hvb).trans hx
  rw [← hW1] at hcp1 hg1
  have hcx1 := hx1.cells
  have hcp2 : ∀ ty dc, (Builtin.copy_ #[28, 28] ty #[.slice (some ⟨g, i * 4, none⟩) (L.length + 1 - i) dc, .slice (some ⟨vb, 0, none⟩) 1 1]).run Tryz.prog W1 = .ok (goInt (Nat.min 1 (L.length + 1 - i) : Nat)) (W1.setRow g C2) := fun ty dc => by
    rw [hC2d]
    exact copyK W1 _ _ ty 49 4 g (i * 4) _ dc ⟨vb, 0, none⟩ _ 1 C1 49 (waOne x) und_was hszK hg1 (by rw [waOne_len]; simp only [Nat.min_def]; split <;> omega)
      (fun j u hu => by
        rw [show (⟨vb, 0, none⟩ : Addr).add j = ⟨vb, j, none⟩ by rw [Addr.add_lit, Nat.zero_add]]
        match j, hu with
        | 0, hu => simp [waOne] at hu; rw [← hu]; exact hcx1.1
        | 1, hu => simp [waOne] at hu; rw [← hu]; exact hcx1.2.1
        | 2, hu => simp [waOne] at hu; rw [← hu]; exact hcx1.2.2.1
        | 3, hu => simp [waOne] at hu; rw [← hu]; exact hcx1.2.2.2
        | n + 4, hu => simp [waOne] at hu) (by rw [waOne_len]; omega) (waOne_one x)
  have HFIN : Hid (∃ cur', (W1.setRow g C2).heap[g]? = some (.cells cur' 49 (0, 0)) ∧ cur'.size = cap * 4 ∧ cur'.toList.take ((L.length + 1) * 4) = cellsK waOne (L.take i ++ x :: L.drop i) ∧ w.grownBy (W1.setRow g C2) (some g)) := Lib.hid
    ⟨C2, setRow_heap _ _ _ _ _ _ hg1, hc2s, hc2t, by
      rw [hW1]
      exact ⟨rfl, rfl, rfl, by simp [World.setRow], fun k hk hne => by
        have hkg : k ≠ g := fun e => hne (by rw [e])
        rw [setRow_other _ _ _ _ hkg, setRow_other _ _ _ _ hkg]; rfl⟩⟩
  have HCP1 := Lib.hid hcp1
  have HCP2 := Lib.hid hcp2
  clear m1 m2 m3 hCS hCl hCc hC1 hC1d hcp1 hg1 hc1s hC2d hc2s hc2t hx1 hcx1 hcp2 hcx hW1 hgd hg hcs htk hx
  go_enter Tryz.func42, Tryz.ntmps42
  go_wp2_with (simp only [hov])
  have mixed : Tryz.prog.follows .mixedOrders = true := by kernel_rfl
  have hq1 := HCP1.out 3 (cap - (i + 1)) (cap - i)
  have hq2 := HCP2.out 3 (cap - i)
  go_region_law_o (fail)
  go_wp2_with fail
  go_ret
  exact ⟨rfl, HFIN.out⟩
theorem grow_cells {L : List Wa} {i G : Nat} {x : Wa} {R : List Value} (hi : i < L.length) (hR : R.take (i * 4) = cellsK waOne (L.take i)) (hl : R.length = G * 4) (hG : L.length + 1 ≤ G) :
    let R1 := R.take (i * 4) ++ waOne x ++ R.drop (i * 4 + 4)
    R1.length = G * 4 ∧ (R1.take ((i + 1) * 4) ++ cellsK waOne (L.drop i) ++ R1.drop ((i + 1) * 4 + (cellsK waOne (L.drop i)).length)).length = G * 4 ∧
      (R1.take ((i + 1) * 4) ++ cellsK waOne (L.drop i) ++ R1.drop ((i + 1) * 4 + (cellsK waOne (L.drop i)).length)).take ((L.length + 1) * 4) = cellsK waOne (L.take i ++ x :: L.drop i) := by
  have hld : (cellsK waOne (L.drop i)).length = (L.length - i) * 4 := by rw [cellsK_len waOne_len, List.length_drop]
  have hl1 : (cellsK waOne (L.take i)).length = i * 4 := by rw [cellsK_len waOne_len, List.length_take, Nat.min_eq_left (by omega)]
  intro R1
  have h1 : R1.length = G * 4 := by
    show (R.take (i * 4) ++ waOne x ++ R.drop (i * 4 + 4)).length = _
    rw [List.length_append, List.length_append, List.length_take, List.length_drop, waOne_len, hl]; omega
  have ht : R1.take ((i + 1) * 4) = cellsK waOne (L.take i) ++ waOne x := by
    show (R.take (i * 4) ++ waOne x ++ R.drop (i * 4 + 4)).take ((i + 1) * 4) = _
    rw [hR]
    exact List.take_left' (by rw [List.length_append, hl1, waOne_len]; omega)
  refine ⟨h1, ?_, ?_⟩
  · rw [List.length_append, List.length_append, List.length_take, List.length_drop, h1, hld]; omega
  · rw [ht, cellsK_append, cellsK_cons, ← List.append_assoc]
    exact List.take_left' (by rw [List.length_append, List.length_append, hl1, waOne_len, hld]; omega)
set_option maxHeartbeats 8000000 in
theorem ins_grow (g cap i : Nat) (L : List Wa) (x : Wa) (vb : Nat) (w : World) (cur : Array Value) (hg : w.heap[g]? = some (.cells cur 49 (0, 0))) (hcs : cur.size = cap * 4) (htk : cur.toList.take (L.length * 4) = cellsK waOne L)
    (hi : i < L.length) (hnc : L.length ≤ cap) (hroom : cap < L.length + 1) (hx : WaB w vb x) (hL : L.length ≤ 1000) :
    Calls Tryz.prog 42 #[.slice (some ⟨g, 0, none⟩) L.length cap, .int .i64 (i : Int), .slice (some ⟨vb, 0, none⟩) 1 1] w fun e w' =>
      ∃ v', e = .returned v' ∧ WRow w' w.heap.size v' (L.take i ++ x :: L.drop i) ∧ Below w.heap.size w w' := by
  obtain ⟨i1, hi1, hz1, hz2, hz3⟩ := info_parts info_wa
  have hszK : (Tryz.prog.info? 49).map (·.size) = some 4 := by kernel_rfl
  have hgw : g < w.heap.size := (Array.getElem?_eq_some_iff.1 hg).1
  have hvw := hx.lt
  obtain ⟨n, hn⟩ : ∃ n, n = L.length := ⟨_, rfl⟩
  have hio : i + (n + 1 - i) = n + 1 := by omega
  have hcl : (cellsK waOne (L.take i)).length = i * 4 := by rw [cellsK_len waOne_len, List.length_take, Nat.min_eq_left (by omega)]
  have hold : (Builtin.firstCells i1.size i (.slice (some ⟨g, 0, none⟩) i cap)).run Tryz.prog w.drew = .ok (cellsK waOne (L.take i)).toArray w.drew := by
    rw [hz2]
    exact run_firstCells_some w.drew 4 i ⟨g, 0, none⟩ i cap (cellsK waOne (L.take i)) (by rw [hcl]) (fun j v hj => by
      have hjl := (List.getElem?_eq_some_iff.1 hj).1
      rw [hcl] at hjl
      rw [← cellsK_take waOne_len, List.getElem?_take, if_pos hjl, ← htk, List.getElem?_take, if_pos (by omega)] at hj
      rw [Addr.add_lit, Nat.zero_add]
      have hgd : w.drew.heap[g]? = some (.cells cur 49 (0, 0)) := hg
      simpa [World.cell?, hgd] using hj)
  obtain ⟨G, hG⟩ : ∃ G, G = grownCap w (n + 1) cap 49 := ⟨_, rfl⟩
  have hGn : n + 1 ≤ G := by rw [hG]; exact grownCap_ge w _ _ _
  have hGm : G ≤ maxLen := by rw [hG]; exact grownCap_le_maxLen w (n + 1) cap 49 (by unfold maxLen; omega)
  obtain ⟨ROW, hROW⟩ : ∃ ROW : Array Value, ROW = (cellsK waOne (L.take i)).toArray ++ Builtin.zeroCells (Value.agg #[.int .i64 0, .string ⟨#[]⟩, .bool false, .bool false]).cells (n + 1 - i) ++ Builtin.zeroCells (Value.agg #[.int .i64 0, .string ⟨#[]⟩, .bool false, .bool false]).cells (G - (n + 1)) := ⟨_, rfl⟩
  have hap : (Builtin.append_ #[28, 3] 28 #[.slice (some ⟨g, 0, none⟩) i cap, .int .i64 ((n : Int) + 1 - (i : Int))]).run Tryz.prog w = .ok (.slice (some ⟨w.heap.size, 0, none⟩) (n + 1) G) (w.drew.alloc (.cells ROW 49)) := by
    have h := Lib.run_append_grow_zeros (P := Tryz.prog) w 28 3 28 49 i1 _ .i64 .i64 und_was und_i hi1 hz1 (some ⟨g, 0, none⟩) i cap (cellsK waOne (L.take i)) hold (n + 1 - i) (by omega) (by omega) (by omega) (by omega) (by rw [hz3]; omega) (by rw [hz3, hio]; exact growslice_fits (by omega) (by omega))
    rw [hio, ← hG, ← hROW] at h
    rw [show (n : Int) + 1 - (i : Int) = ((n + 1 - i : Nat) : Int) by omega]
    exact h
  have hRs : ROW.size = G * 4 := by
    rw [hROW]
    simp [Builtin.zeroCells, Value.cells, hcl]
    omega
  have hRt : ROW.toList.take (i * 4) = cellsK waOne (L.take i) := by
    rw [hROW]
    simp only [Array.toList_append, List.append_assoc]
    exact List.take_left' (by simpa using hcl)
  obtain ⟨m1, m2, m3⟩ := grow_cells (x := x) (R := ROW.toList) hi hRt (by simpa using hRs) (by omega : L.length + 1 ≤ G)
  obtain ⟨CS, hCS⟩ : ∃ CS, CS = cellsK waOne (L.drop i) := ⟨_, rfl⟩
  have hCl : CS.length = (n - i) * 4 := by rw [hCS, cellsK_len waOne_len, List.length_drop, hn]
  rw [← hCS] at m2 m3
  have hCc : ∀ j v, CS[j]? = some v → w.cell? ⟨g, i * 4 + j, none⟩ = some v := fun j v hj => by
    rw [hCS, ← cellsK_drop waOne_len, List.getElem?_drop, ← htk, List.getElem?_take] at hj
    split at hj
    · simpa [World.cell?, hg] using hj
    · cases hj
  have hC1 : ∀ v ∈ CS, v.oneCell' = true := fun v hv => cellsK_one waOne_one _ v (by rw [← hCS]; exact hv)
  obtain ⟨r, hr⟩ : ∃ r, r = w.heap.size := ⟨_, rfl⟩
  obtain ⟨W1, hW1⟩ : ∃ W1, W1 = w.drew.alloc (.cells ROW 49) := ⟨_, rfl⟩
  have b1 : Below w.heap.size w W1 := by rw [hW1]; exact ((Below.refl _ w).drew).alloc (Nat.le_refl _) _
  have hg1 : W1.heap[r]? = some (.cells ROW 49 (0, 0)) := by rw [hW1, hr]; exact heap_alloc_new w.drew _
  have hx1 := hx.below b1
  have hcx1 := hx1.cells
  obtain ⟨R1, hR1⟩ : ∃ R1 : Array Value, R1 = (ROW.toList.take (i * 4) ++ waOne x ++ ROW.toList.drop (i * 4 + 4)).toArray := ⟨_, rfl⟩
  have hcpA : ∀ ty dc, (Builtin.copy_ #[28, 28] ty #[.slice (some ⟨r, i * 4, none⟩) (n + 1 - i) dc, .slice (some ⟨vb, 0, none⟩) 1 1]).run Tryz.prog W1 = .ok (goInt (Nat.min 1 (n + 1 - i) : Nat)) (W1.setRow r R1) := fun ty dc => by
    rw [hR1]
    exact copyK W1 _ _ ty 49 4 r (i * 4) _ dc ⟨vb, 0, none⟩ _ 1 ROW 49 (waOne x) und_was hszK hg1 (by rw [waOne_len]; simp only [Nat.min_def]; split <;> omega)
      (fun j u hu => by
        rw [show (⟨vb, 0, none⟩ : Addr).add j = ⟨vb, j, none⟩ by rw [Addr.add_lit, Nat.zero_add]]
        match j, hu with
        | 0, hu => simp [waOne] at hu; rw [← hu]; exact hcx1.1
        | 1, hu => simp [waOne] at hu; rw [← hu]; exact hcx1.2.1
        | 2, hu => simp [waOne] at hu; rw [← hu]; exact hcx1.2.2.1
        | 3, hu => simp [waOne] at hu; rw [← hu]; exact hcx1.2.2.2
        | n + 4, hu => simp [waOne] at hu) (by rw [waOne_len]; omega) (waOne_one x)
  obtain ⟨W2, hW2⟩ : ∃ W2, W2 = W1.setRow r R1 := ⟨_, rfl⟩
  have b2 : Below w.heap.size w W2 := by rw [hW2]; exact below_setRow b1 (by omega) _
  have hg2 : W2.heap[r]? = some (.cells R1 49 (0, 0)) := by rw [hW2]; exact setRow_heap _ _ _ _ _ _ hg1
  rw [← hW2] at hcpA
  have hg2d : W2.drew.heap[r]? = some (.cells R1 49 (0, 0)) := hg2
  have hR1s : R1.size = G * 4 := by rw [hR1]; simpa using m1
  obtain ⟨R2, hR2⟩ : ∃ R2 : Array Value, R2 = (R1.toList.take ((i + 1) * 4) ++ CS ++ R1.toList.drop ((i + 1) * 4 + CS.length)).toArray := ⟨_, rfl⟩
  have hcpB : ∀ ty dc sc, (Builtin.copy_ #[28, 28] ty #[.slice (some ⟨r, (i + 1) * 4, none⟩) (n - i) dc, .slice (some ⟨g, i * 4, none⟩) (n - i) sc]).run Tryz.prog W2.drew = .ok (goInt (Nat.min (n - i) (n - i) : Nat)) (W2.drew.setRow r R2) := fun ty dc sc => by
    rw [hR2]
    exact copyK W2.drew _ _ ty 49 4 r ((i + 1) * 4) _ dc ⟨g, i * 4, none⟩ _ sc R1 49 CS und_was hszK hg2d (by rw [hCl]; simp only [Nat.min_def]; split <;> omega)
      (fun j v hj => by
        rw [Addr.add_lit, (b2.drew).cell (p := ⟨g, i * 4 + j, none⟩) hgw]; exact hCc j v hj) (by rw [hCl]; omega) hC1
  have HFIN : Hid (WRow (W2.drew.setRow r R2) w.heap.size (.slice (some ⟨r, 0, none⟩) (n + 1) G) (L.take i ++ x :: L.drop i) ∧ Below w.heap.size w (W2.drew.setRow r R2)) := Lib.hid ⟨by
      have hll : (L.take i ++ x :: L.drop i).length = n + 1 := by rw [List.length_append, List.length_take, List.length_cons, List.length_drop]; omega
      unfold WRow
      rw [hll]
      refine ⟨by rw [cellsK_len waOne_len, hll], .inr ⟨r, G, R2, rfl, by omega, setRow_heap _ _ _ _ _ _ hg2d, hGn, hGm, ?_, ?_⟩⟩
      · rw [hR2, hR1]; simpa using m2
      · rw [hn, hR2, hR1]; simpa using m3, below_setRow b2.drew (by omega) _⟩
  unfold maxLen at hGm
  have hz2 : ¬ ((i : Int) = (n : Int)) := by omega
  have hb1 : (0 : Int) ≤ (i : Int) + 1 := by omega
  have hin : i ≤ n := by omega
  have htn : ((i : Int) + 1).toNat = i + 1 := by omega
  have hb2 : ¬ (G = i + 1) := by omega
  have hb3 : (i : Int) ≤ (n : Int) + 1 := by omega
  have hb4 : ¬ (cap = i) := by omega
  have hb6 : ¬ (G = i) := by omega
  have hw1 : IntKind.i64.wrap ((i : Int) + 1) = (i : Int) + 1 := IntWalk.i64_in _ (by omega)
  have hw2 : IntKind.i64.wrap ((n : Int) + 1) = (n : Int) + 1 := IntWalk.i64_in _ (by omega)
  have hw3 : IntKind.i64.wrap ((n : Int) + 1 - (i : Int)) = (n : Int) + 1 - (i : Int) := IntWalk.i64_in _ (by omega)
  have hb5 : (cap : Int) < (n : Int) + 1 := by omega
  have hb7 : (i : Int) ≤ (cap : Int) := by omega
  rw [← hr] at hap
  rw [← hW1] at hap
  rw [← hn]
  have hq1 := hcpA 3 (G - i)
  have hq2 := hcpB 3 (G - (i + 1)) (cap - i)
  have HHR := Lib.hid hr
  have HNN := Lib.hid hn
  clear m1 m2 m3 hCS hCl hCc hC1 hcpA hcpB hg1 hg2 hg2d hx1 hcx1 hR1 hR2 hR1s hRs hRt hROW hold hcl hW1 hW2 hg hcs htk hx b1 b2 hi1 hz1 hz3 hszK hio hG hGm hr hn
  have mixed : Tryz.prog.follows .mixedOrders = true := by kernel_rfl
  go_enter Tryz.func42, Tryz.ntmps42
  have HAP := Lib.hid hap
  clear hap
  go_wp2_with (at_builtin; refine Lib.wpList_append_run _ rfl _ _ _ _ rfl _ _ rfl rfl _ _ HAP.out ?_)
  go_region_law_o (fail)
  go_wp2_with fail
  go_ret
  exact ⟨_, rfl, HFIN.out⟩
theorem ownsRow_less {w : World} {base base' : Nat} {e : TypeId} {size : Nat} {v : Value} {n : Nat} {xs : List Value} (h : w.ownsRow base e size v n xs) (hb : base' ≤ base) : w.ownsRow base' e size v n xs :=
  ⟨h.1, h.2.imp id (fun ⟨g, cap, cur, h1, h2, h3⟩ => ⟨g, cap, cur, h1, Nat.le_trans hb h2, h3⟩)⟩
/-- One watch more, at i. -/
theorem ins_any (base : Nat) (v : Value) (L : List Wa) (i : Nat) (x : Wa) (vb : Nat) (w : World) (h : WRow w base v L) (hx : WaB w vb x) (hvb : ∀ g, v.ownBlock = some g → vb ≠ g) (hi : i ≤ L.length) (hb : base ≤ w.heap.size) (hL : L.length ≤ 1000) :
    Calls Tryz.prog 42 #[v, .int .i64 (i : Int), .slice (some ⟨vb, 0, none⟩) 1 1] w fun e w' => ∃ v', e = .returned v' ∧ WRow w' base v' (L.take i ++ x :: L.drop i) ∧ w.grownBy w' v.ownBlock ∧ OwnOr w v v' := by
  by_cases he : i = L.length
  · subst he
    rw [List.take_length, List.drop_length]
    exact ins_end base v L x vb w h hx hb hL
  · have hil : i < L.length := by omega
    rcases h.2 with ⟨_, h0⟩ | ⟨g, cap, cur, rfl, hbg, hg, hnc, hcm, hcs, htk⟩
    · omega
    · have hll : (L.take i ++ x :: L.drop i).length = L.length + 1 := by rw [List.length_append, List.length_take, List.length_cons, List.length_drop]; omega
      by_cases hroom : L.length + 1 ≤ cap
      · refine (ins_room g cap i L x vb w cur hg hcs htk hil hroom hcm hx (hvb g rfl) hL).mono ?_
        rintro e w' ⟨rfl, cur', hg', hs', ht', hgr⟩
        refine ⟨_, rfl, ?_, hgr, .same rfl⟩
        unfold WRow
        rw [hll]
        exact ⟨by rw [cellsK_len waOne_len, hll], .inr ⟨g, cap, cur', rfl, hbg, hg', hroom, hcm, hs', ht'⟩⟩
      · refine (ins_grow g cap i L x vb w cur hg hcs htk hil hnc (by omega) hx hL).mono ?_
        rintro e w' ⟨v', rfl, hr, hbl⟩
        exact ⟨v', rfl, ownsRow_less hr hb, below_grownBy hbl _, OwnOr.new hr⟩
end Go.Proofs.YtbbdokfankgllaaGreatDoor
